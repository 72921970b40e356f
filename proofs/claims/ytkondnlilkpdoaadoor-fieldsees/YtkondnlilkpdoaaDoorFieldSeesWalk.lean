/- FieldSees, walked: whatever comes in, true comes out. -/
import Derived.Test.YtkondnlilkpdoaaDoorAwakeF
import Derived.Test.YtkondnlilkpdoaaDoorRFl4
import Derived.Test.YtkondnlilkpdoaaDoorFrame
set_option linter.unusedVariables false
namespace Go.Proofs.YtkondnlilkpdoaaDoor.Fi
open Go.RowKit

/-- Six dots in their box; nothing old turned. -/
structure Db (W : World) (g : Nat) (D : Nat → Bool) (w : World) : Prop where
  old : Below W.heap.size W w
  tab : Tab w
  d : DAt w g D
theorem Db.below {W w w' : World} {g : Nat} {D : Nat → Bool} (h : Db W g D w) (hb : Below w.heap.size w w') : Db W g D w' :=
  ⟨b_keep h.old hb, h.tab.below hb (Nat.le_refl _), h.d.below hb⟩
theorem Db.draws {W w : World} {g : Nat} {D : Nat → Bool} (h : Db W g D w) (q : Nat) : Db W g D (w.drewN q) := h.below (below_drewN (Below.refl _ w) q)
theorem db_new {W : World} (d0 d1 d2 d3 d4 d5 : Bool) (hT : Tab W) : Db W W.heap.size (six d0 d1 d2 d3 d4 d5) (W.alloc (.cells #[.bool d0, .bool d1, .bool d2, .bool d3, .bool d4, .bool d5] 26)) := by
  have hb : Below W.heap.size W (W.alloc (.cells #[.bool d0, .bool d1, .bool d2, .bool d3, .bool d4, .bool d5] 26)) := (Below.refl _ W).alloc (Nat.le_refl _) _
  exact ⟨hb, hT.below hb (Nat.le_refl _), new_dots _ _ _ _ _ _ _⟩

end Go.Proofs.YtkondnlilkpdoaaDoor.Fi
namespace Go.Proofs.YtkondnlilkpdoaaDoor.fieldSees
open Go.RowKit Fi

set_option maxRecDepth 100000 in
set_option maxHeartbeats 8000000 in
theorem good (d0 d1 d2 d3 d4 d5 : Bool) (c m t : Nat) (x r : Int) (W : World) (ht : Tab W) (hc : c < 256) (hm : m < 65536) (htt : t < 256) (hmm : mt (six d0 d1 d2 d3 d4 d5) 15 = m)
    (hS : ∀ w, Tab w → Calls Tryd.prog 13 #[.agg #[.bool d0, .bool d1, .bool d2, .bool d3, .bool d4, .bool d5], .int .u8 (c : Int), .int .i64 x] w fun e w' => e = .returned (.int .i64 r) ∧ Below w.heap.size w w')
    (hR : ∀ w, Calls Tryd.prog 14 #[.agg #[.bool d0, .bool d1, .bool d2, .bool d3, .bool d4, .bool d5], .int .i64 (c : Int), .int .i64 x] w fun e w' => e = .returned (.int .i64 r) ∧ Below w.heap.size w w')
    (hT : ∀ w, Calls Tryd.prog 16 #[.int .u16 (m : Int), .int .i64 x] w fun e w' => e = .returned (.int .u8 (t : Int)) ∧ Below w.heap.size w w')
    (hU : ∀ w, Calls Tryd.prog 17 #[.int .i64 (m : Int), .int .i64 x] w fun e w' => e = .returned (.int .i64 (t : Int)) ∧ Below w.heap.size w w') :
    Calls Tryd.prog 4 #[.agg #[.bool d0, .bool d1, .bool d2, .bool d3, .bool d4, .bool d5], .int .u8 (c : Int), .int .i64 x] W fun e w' => e = .returned (.bool true) ∧ Below W.heap.size W w' := by
  have HS : Hid (∀ w, Tab w → Calls Tryd.prog 13 #[.agg #[.bool d0, .bool d1, .bool d2, .bool d3, .bool d4, .bool d5], .int .u8 (c : Int), .int .i64 x] w fun e w' => e = .returned (.int .i64 r) ∧ Below w.heap.size w w') := hS
  have HR : Hid (∀ w, Calls Tryd.prog 14 #[.agg #[.bool d0, .bool d1, .bool d2, .bool d3, .bool d4, .bool d5], .int .i64 (c : Int), .int .i64 x] w fun e w' => e = .returned (.int .i64 r) ∧ Below w.heap.size w w') := hR
  have HT : Hid (∀ w, Calls Tryd.prog 16 #[.int .u16 (m : Int), .int .i64 x] w fun e w' => e = .returned (.int .u8 (t : Int)) ∧ Below w.heap.size w w') := hT
  have HU : Hid (∀ w, Calls Tryd.prog 17 #[.int .i64 (m : Int), .int .i64 x] w fun e w' => e = .returned (.int .i64 (t : Int)) ∧ Below w.heap.size w w') := hU
  have HM : Hid (∀ w, Tab w → Calls Tryd.prog 12 #[.agg #[.bool d0, .bool d1, .bool d2, .bool d3, .bool d4, .bool d5]] w fun e w' => e = .returned (.int .u16 (m : Int)) ∧ Below w.heap.size w w') := (fun w hw => hmm ▸ Meet d0 d1 d2 d3 d4 d5 _ w hw rfl : ∀ w, Tab w → Calls Tryd.prog 12 #[.agg #[.bool d0, .bool d1, .bool d2, .bool d3, .bool d4, .bool d5]] w fun e w' => e = .returned (.int .u16 (m : Int)) ∧ Below w.heap.size w w')
  have HN : Hid (∀ w, Calls Tryd.prog 15 #[.agg #[.bool d0, .bool d1, .bool d2, .bool d3, .bool d4, .bool d5]] w fun e w' => e = .returned (.int .i64 (m : Int)) ∧ Below w.heap.size w w') := (fun w => hmm ▸ RMeet d0 d1 d2 d3 d4 d5 _ w rfl : ∀ w, Calls Tryd.prog 15 #[.agg #[.bool d0, .bool d1, .bool d2, .bool d3, .bool d4, .bool d5]] w fun e w' => e = .returned (.int .i64 (m : Int)) ∧ Below w.heap.size w w')
  have H0 : Hid (Db W W.heap.size (six d0 d1 d2 d3 d4 d5) (W.alloc (.cells #[.bool d0, .bool d1, .bool d2, .bool d3, .bool d4, .bool d5] 26))) := db_new d0 d1 d2 d3 d4 d5 ht
  have e1 : IntKind.i64.wrap (c : Int) = c := by rw [IntKind.wrap_i64]; omega
  have e2 : IntKind.i64.wrap (m : Int) = m := by rw [IntKind.wrap_i64]; omega
  have e3 : IntKind.i64.wrap (t : Int) = t := by rw [IntKind.wrap_i64]; omega
  clear hS hR hT hU ht hmm
  go_enter Tryd.func4, Tryd.ntmps4
  go_wp2_with (go_at_call 12; fail)
  generalize (W.alloc (.cells #[.bool d0, .bool d1, .bool d2, .bool d3, .bool d4, .bool d5] 26)) = v at *
  obtain ⟨g, hg⟩ : ∃ g, W.heap.size = g := ⟨_, rfl⟩
  have H1 : Hid (Db W g (six d0 d1 d2 d3 d4 d5) v) := (by rw [← hg]; exact H0.out : Db W g (six d0 d1 d2 d3 d4 d5) v)
  rw [hg]
  clear hg H0
  refine (HM.out _ H1.out.tab).mono ?_
  rintro e w1 ⟨rfl, hB⟩
  have K1 : Hid (Db W g (six d0 d1 d2 d3 d4 d5) w1) := H1.out.below hB
  have b0 : w1.cell? ⟨g, 0, none⟩ = some (.bool d0) := K1.out.d.c 0 (by decide)
  have b1 : w1.cell? ⟨g, 1, none⟩ = some (.bool d1) := K1.out.d.c 1 (by decide)
  have b2 : w1.cell? ⟨g, 2, none⟩ = some (.bool d2) := K1.out.d.c 2 (by decide)
  have b3 : w1.cell? ⟨g, 3, none⟩ = some (.bool d3) := K1.out.d.c 3 (by decide)
  have b4 : w1.cell? ⟨g, 4, none⟩ = some (.bool d4) := K1.out.d.c 4 (by decide)
  have b5 : w1.cell? ⟨g, 5, none⟩ = some (.bool d5) := K1.out.d.c 5 (by decide)
  clear hB H1
  go_wp2
  go_region_held3 (fun w' => w'.cell? ⟨g, 0, none⟩ = some (.bool d0) ∧ w'.cell? ⟨g, 1, none⟩ = some (.bool d1) ∧ w'.cell? ⟨g, 2, none⟩ = some (.bool d2) ∧ w'.cell? ⟨g, 3, none⟩ = some (.bool d3) ∧ w'.cell? ⟨g, 4, none⟩ = some (.bool d4) ∧ w'.cell? ⟨g, 5, none⟩ = some (.bool d5)) (first | exact ⟨by assumption, by assumption, by assumption, by assumption, by assumption, by assumption⟩ | go_keep) (first
    | (go_at_call 13; refine (HS.out _ (by first | exact K1.out.tab | exact (K1.out.draws _).tab)).mono ?_; rintro e w2 ⟨rfl, hB'⟩; have K2 : Hid (Db W g (six d0 d1 d2 d3 d4 d5) w2) := (by first | exact K1.out.below hB' | exact (K1.out.draws _).below hB'); have fw20 : w2.cell? ⟨g, 0, none⟩ = some (.bool d0) := K2.out.d.c 0 (by decide); have fw21 : w2.cell? ⟨g, 1, none⟩ = some (.bool d1) := K2.out.d.c 1 (by decide); have fw22 : w2.cell? ⟨g, 2, none⟩ = some (.bool d2) := K2.out.d.c 2 (by decide); have fw23 : w2.cell? ⟨g, 3, none⟩ = some (.bool d3) := K2.out.d.c 3 (by decide); have fw24 : w2.cell? ⟨g, 4, none⟩ = some (.bool d4) := K2.out.d.c 4 (by decide); have fw25 : w2.cell? ⟨g, 5, none⟩ = some (.bool d5) := K2.out.d.c 5 (by decide); clear hB')
    | (go_at_call 14; refine (HR.out _).mono ?_; rintro e w3 ⟨rfl, hB'⟩; have K3 : Hid (Db W g (six d0 d1 d2 d3 d4 d5) w3) := (by first | exact K2.out.below hB' | exact (K2.out.draws _).below hB'); have fw30 : w3.cell? ⟨g, 0, none⟩ = some (.bool d0) := K3.out.d.c 0 (by decide); have fw31 : w3.cell? ⟨g, 1, none⟩ = some (.bool d1) := K3.out.d.c 1 (by decide); have fw32 : w3.cell? ⟨g, 2, none⟩ = some (.bool d2) := K3.out.d.c 2 (by decide); have fw33 : w3.cell? ⟨g, 3, none⟩ = some (.bool d3) := K3.out.d.c 3 (by decide); have fw34 : w3.cell? ⟨g, 4, none⟩ = some (.bool d4) := K3.out.d.c 4 (by decide); have fw35 : w3.cell? ⟨g, 5, none⟩ = some (.bool d5) := K3.out.d.c 5 (by decide); clear hB')
    | (go_at_call 15; refine (HN.out _).mono ?_; rintro e w4 ⟨rfl, hB'⟩; have K4 : Hid (Db W g (six d0 d1 d2 d3 d4 d5) w4) := (by first | exact K3.out.below hB' | exact (K3.out.draws _).below hB'); have fw40 : w4.cell? ⟨g, 0, none⟩ = some (.bool d0) := K4.out.d.c 0 (by decide); have fw41 : w4.cell? ⟨g, 1, none⟩ = some (.bool d1) := K4.out.d.c 1 (by decide); have fw42 : w4.cell? ⟨g, 2, none⟩ = some (.bool d2) := K4.out.d.c 2 (by decide); have fw43 : w4.cell? ⟨g, 3, none⟩ = some (.bool d3) := K4.out.d.c 3 (by decide); have fw44 : w4.cell? ⟨g, 4, none⟩ = some (.bool d4) := K4.out.d.c 4 (by decide); have fw45 : w4.cell? ⟨g, 5, none⟩ = some (.bool d5) := K4.out.d.c 5 (by decide); clear hB')
    | (go_at_call 16; refine (HT.out _).mono ?_; rintro e w5 ⟨rfl, hB'⟩; have K5 : Hid (Db W g (six d0 d1 d2 d3 d4 d5) w5) := (by first | exact K4.out.below hB' | exact (K4.out.draws _).below hB'); have fw50 : w5.cell? ⟨g, 0, none⟩ = some (.bool d0) := K5.out.d.c 0 (by decide); have fw51 : w5.cell? ⟨g, 1, none⟩ = some (.bool d1) := K5.out.d.c 1 (by decide); have fw52 : w5.cell? ⟨g, 2, none⟩ = some (.bool d2) := K5.out.d.c 2 (by decide); have fw53 : w5.cell? ⟨g, 3, none⟩ = some (.bool d3) := K5.out.d.c 3 (by decide); have fw54 : w5.cell? ⟨g, 4, none⟩ = some (.bool d4) := K5.out.d.c 4 (by decide); have fw55 : w5.cell? ⟨g, 5, none⟩ = some (.bool d5) := K5.out.d.c 5 (by decide); clear hB')
    | (go_at_call 17; refine (HU.out _).mono ?_; rintro e w6 ⟨rfl, hB'⟩; have K6 : Hid (Db W g (six d0 d1 d2 d3 d4 d5) w6) := (by first | exact K5.out.below hB' | exact (K5.out.draws _).below hB'); have fw60 : w6.cell? ⟨g, 0, none⟩ = some (.bool d0) := K6.out.d.c 0 (by decide); have fw61 : w6.cell? ⟨g, 1, none⟩ = some (.bool d1) := K6.out.d.c 1 (by decide); have fw62 : w6.cell? ⟨g, 2, none⟩ = some (.bool d2) := K6.out.d.c 2 (by decide); have fw63 : w6.cell? ⟨g, 3, none⟩ = some (.bool d3) := K6.out.d.c 3 (by decide); have fw64 : w6.cell? ⟨g, 4, none⟩ = some (.bool d4) := K6.out.d.c 4 (by decide); have fw65 : w6.cell? ⟨g, 5, none⟩ = some (.bool d5) := K6.out.d.c 5 (by decide); clear hB')
    | (go_at_call 11; refine (awake18 _ (by first | exact K6.out.tab | exact (K6.out.draws _).tab)).mono ?_; rintro e w7 ⟨rfl, hB'⟩; have K7 : Hid (Db W g (six d0 d1 d2 d3 d4 d5) w7) := (by first | exact K6.out.below hB' | exact (K6.out.draws _).below hB'); have fw70 : w7.cell? ⟨g, 0, none⟩ = some (.bool d0) := K7.out.d.c 0 (by decide); have fw71 : w7.cell? ⟨g, 1, none⟩ = some (.bool d1) := K7.out.d.c 1 (by decide); have fw72 : w7.cell? ⟨g, 2, none⟩ = some (.bool d2) := K7.out.d.c 2 (by decide); have fw73 : w7.cell? ⟨g, 3, none⟩ = some (.bool d3) := K7.out.d.c 3 (by decide); have fw74 : w7.cell? ⟨g, 4, none⟩ = some (.bool d4) := K7.out.d.c 4 (by decide); have fw75 : w7.cell? ⟨g, 5, none⟩ = some (.bool d5) := K7.out.d.c 5 (by decide); clear hB'))
  all_goals go_wp2
  all_goals go_returns
  all_goals exact ⟨rfl, by first | exact K7.out.old | exact (K7.out.draws _).old⟩

theorem walk (d0 d1 d2 d3 d4 d5 : Bool) (a1 : Int) (w1 : (Lit.int .u8 a1).wf = true) (a2 : Int) (w2 : (Lit.int .i64 a2).wf = true) (W : World) (ht : Tab W) :
    Calls Tryd.prog 4 #[.agg #[.bool d0, .bool d1, .bool d2, .bool d3, .bool d4, .bool d5], .int .u8 a1, .int .i64 a2] W fun e w' => e = .returned (.bool true) ∧ Below W.heap.size W w' := by
  have b1 := bounds_u8 w1
  obtain ⟨c, rfl⟩ := Int.eq_ofNat_of_zero_le b1.1
  have hc : c < 256 := by omega
  have hm : mt (six d0 d1 d2 d3 d4 d5) 15 < 65536 := Nat.lt_trans (mt_lt _ 15) (by decide)
  have hs : ∀ w, Tab w → Calls Tryd.prog 13 #[.agg #[.bool d0, .bool d1, .bool d2, .bool d3, .bool d4, .bool d5], .int .u8 (c : Int), .int .i64 a2] w fun e w' => e = .returned (.int .i64 (seenI (decide (c / 4 % 2 = 1)) (decide (c / 2 % 2 = 1)) d0 d1 d2 d3 d4 d5 (decide (a2 < 80)))) ∧ Below w.heap.size w w' := fun w hw => Seen d0 d1 d2 d3 d4 d5 c a2 _ _ _ w hc rfl rfl rfl hw
  have hr : ∀ w, Calls Tryd.prog 14 #[.agg #[.bool d0, .bool d1, .bool d2, .bool d3, .bool d4, .bool d5], .int .i64 (c : Int), .int .i64 a2] w fun e w' => e = .returned (.int .i64 (seenI (decide (c / 4 % 2 = 1)) (decide (c / 2 % 2 = 1)) d0 d1 d2 d3 d4 d5 (decide (a2 < 80)))) ∧ Below w.heap.size w w' := fun w => RSeen d0 d1 d2 d3 d4 d5 c a2 _ _ _ w hc rfl rfl rfl
  by_cases h : 0 ≤ a2 ∧ a2 ≤ 7
  · obtain ⟨k, rfl⟩ := Int.eq_ofNat_of_zero_le h.1
    have lt : tN (mt (six d0 d1 d2 d3 d4 d5) 15) k < 256 := by
      generalize mt (six d0 d1 d2 d3 d4 d5) 15 = m
      have h1 := bsN_le m (2 * k); have h2 := bsN_le m (2 * k + 1); have h3 := bsN_le m 12; have h4 := bsN_le m 13; have h5 := bsN_le m 14
      unfold tN
      split
      · omega
      · split <;> omega
    exact good d0 d1 d2 d3 d4 d5 c _ _ k _ W ht hc hm lt rfl hs hr (fun w => (Tell _ k w hm (by omega)).mono fun _ w' ⟨he, hw⟩ => ⟨he, hw ▸ Below.refl _ _⟩) (fun w => (RTell _ k w hm (by omega)).mono fun _ w' ⟨he, hw⟩ => ⟨he, hw ▸ Below.refl _ _⟩)
  · exact good d0 d1 d2 d3 d4 d5 c _ 0 a2 _ W ht hc hm (by decide) rfl hs hr (fun w => (Tell_no _ a2 w (by omega)).mono fun _ w' ⟨he, hw⟩ => ⟨he, hw ▸ Below.refl _ _⟩) (fun w => (RTell_no _ a2 w (by omega)).mono fun _ w' ⟨he, hw⟩ => ⟨he, hw ▸ Below.refl _ _⟩)

end Go.Proofs.YtkondnlilkpdoaaDoor.fieldSees
