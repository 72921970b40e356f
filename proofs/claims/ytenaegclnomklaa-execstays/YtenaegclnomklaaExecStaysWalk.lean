/- ExecStays, walked: whatever comes in, true comes out. -/
import Derived.Test.YtenaegclnomklaaAwakeE
import Derived.Test.YtenaegclnomklaaExK
import Derived.Deep.RegionWith
import Derived.Deep.DeepCutAuto
namespace Go.Proofs.Ytenaegclnomklaa.execStays
open Go.RowKit Alu Ex
set_option linter.unusedVariables false

theorem far {w : World} {b c o k : Nat} {r : Rg} {v : Go.Value} (h : RAt w b o r) (hn : b ≠ c) : RAt (w.setCell ⟨c, k, none⟩ v) b o r := h.kept (Below.heap_setCell _ _ _ _ hn)
theorem drewR {w : World} {b o : Nat} {r : Rg} (h : RAt w b o r) : RAt w.drew b o r := h.draws 1
theorem newR {w : World} {g : Nat} {t : TypeId} (hg : g = w.heap.size) : RAt (w.alloc (.cells #[.int .u8 0, .int .u8 0, .int .u8 0, .int .u8 0, .int .u8 0, .int .u16 0] t)) g 0 ⟨0, 0, 0, 0, 0, 0⟩ := by
  subst hg
  exact RAt.new w ⟨0, 0, 0, 0, 0, 0⟩ t
theorem newR2 {w : World} {A : Obj} {t : TypeId} : RAt ((w.alloc A).alloc (.cells #[.int .u8 0, .int .u8 0, .int .u8 0, .int .u8 0, .int .u8 0, .int .u16 0] t)) (w.heap.size + 1) 0 ⟨0, 0, 0, 0, 0, 0⟩ := newR (by simp)
theorem allocR {w : World} {b o : Nat} {r : Rg} {X : Obj} (h : RAt w b o r) : RAt (w.alloc X) b o r := h.alloc X
theorem set6 {w : World} {b n0 n1 n2 n3 n4 n5 : Nat} (h : RAt w b 0 ⟨0, 0, 0, 0, 0, 0⟩) : RAt ((((((w.setCell ⟨b, 0, none⟩ (.int .u8 ((n0 : Nat) : Int))).setCell ⟨b, 1, none⟩ (.int .u8 ((n1 : Nat) : Int))).setCell ⟨b, 2, none⟩ (.int .u8 ((n2 : Nat) : Int))).setCell ⟨b, 3, none⟩ (.int .u8 ((n3 : Nat) : Int))).setCell ⟨b, 4, none⟩ (.int .u8 ((n4 : Nat) : Int))).setCell ⟨b, 5, none⟩ (.int .u16 ((n5 : Nat) : Int))) b 0 ⟨n0, n1, n2, n3, n4, n5⟩ :=
  RAt.put5 (RAt.put4 (RAt.put3 (RAt.put2 (RAt.put1 (RAt.put0 h n0) n1) n2) n3) n4) n5
theorem far6 {w : World} {b c n0 n1 n2 n3 n4 n5 : Nat} {r : Rg} (h : RAt w b 0 r) (hn : b ≠ c) : RAt ((((((w.setCell ⟨c, 0, none⟩ (.int .u8 ((n0 : Nat) : Int))).setCell ⟨c, 1, none⟩ (.int .u8 ((n1 : Nat) : Int))).setCell ⟨c, 2, none⟩ (.int .u8 ((n2 : Nat) : Int))).setCell ⟨c, 3, none⟩ (.int .u8 ((n3 : Nat) : Int))).setCell ⟨c, 4, none⟩ (.int .u8 ((n4 : Nat) : Int))).setCell ⟨c, 5, none⟩ (.int .u16 ((n5 : Nat) : Int))) b 0 r :=
  far (far (far (far (far (far h hn) hn) hn) hn) hn) hn
theorem newV {w : World} {g n0 n1 n2 n3 n4 n5 : Nat} {t : TypeId} (hg : g = w.heap.size) : RAt (w.alloc (.cells #[.int .u8 (n0 : Int), .int .u8 (n1 : Int), .int .u8 (n2 : Int), .int .u8 (n3 : Int), .int .u8 (n4 : Int), .int .u16 (n5 : Int)] t)) g 0 ⟨n0, n1, n2, n3, n4, n5⟩ := by
  subst hg
  exact RAt.new w ⟨n0, n1, n2, n3, n4, n5⟩ t
theorem newV2 {w : World} {A : Obj} {n0 n1 n2 n3 n4 n5 : Nat} {t : TypeId} : RAt ((w.alloc A).alloc (.cells #[.int .u8 (n0 : Int), .int .u8 (n1 : Int), .int .u8 (n2 : Int), .int .u8 (n3 : Int), .int .u8 (n4 : Int), .int .u16 (n5 : Int)] t)) (w.heap.size + 1) 0 ⟨n0, n1, n2, n3, n4, n5⟩ := newV (by simp)
theorem belowD {n : Nat} {a w : World} (h : Below n a w) : Below n a w.drew := below_drewN (n := 1) h
theorem belowA {n : Nat} {a w : World} {X : Obj} (h : Below n a w) (hn : n ≤ w.heap.size) : Below n a (w.alloc X) := h.alloc hn X
theorem belowS {n b o : Nat} {a w : World} {v : Value} (h : Below n a w) (hb : n ≤ b) : Below n a (w.setCell ⟨b, o, none⟩ v) := below_set h hb
theorem sOf {w : World} {b : Nat} {r : Rg} (h : RAt w b 0 r) : w.cell? ⟨b, 0, none⟩ = some (.int .u8 (r.a : Int)) ∧ w.cell? ⟨b, 1, none⟩ = some (.int .u8 (r.x : Int)) ∧ w.cell? ⟨b, 2, none⟩ = some (.int .u8 (r.y : Int)) ∧ w.cell? ⟨b, 3, none⟩ = some (.int .u8 (r.s : Int)) ∧ w.cell? ⟨b, 4, none⟩ = some (.int .u8 (r.p : Int)) ∧ w.cell? ⟨b, 5, none⟩ = some (.int .u16 (r.pc : Int)) := by
  obtain ⟨h0, h1, h2, h3, h4, h5, _⟩ := h
  simp only [Nat.zero_add] at h1 h2 h3 h4 h5
  exact ⟨h0, h1, h2, h3, h4, h5⟩
theorem sizeLe {n : Nat} {a w : World} (h : Below n a w) (hn : n = a.heap.size) : n ≤ w.heap.size := by rw [hn]; exact h.size

set_option maxRecDepth 100000 in
set_option maxHeartbeats 4000000 in
theorem walk (s : ByteArray) (a1_0 a1_1 a1_2 a1_3 a1_4 a1_5 : Int) (w1_0 : (Lit.int .u8 a1_0).wf = true) (w1_1 : (Lit.int .u8 a1_1).wf = true) (w1_2 : (Lit.int .u8 a1_2).wf = true) (w1_3 : (Lit.int .u8 a1_3).wf = true) (w1_4 : (Lit.int .u8 a1_4).wf = true) (w1_5 : (Lit.int .u16 a1_5).wf = true) (a2 : Int) (w2 : (Lit.int .u8 a2).wf = true) (W : World) :
    Calls Try.prog 6 #[.string s, .agg #[.int .u8 a1_0, .int .u8 a1_1, .int .u8 a1_2, .int .u8 a1_3, .int .u8 a1_4, .int .u16 a1_5], .int .u8 a2] W fun e w' => e = .returned (.bool true) ∧ Below W.heap.size W w' := by
  obtain ⟨x0, x1⟩ := bounds_u8 w1_0
  obtain ⟨y0, y1⟩ := bounds_u8 w1_1
  obtain ⟨z0, z1⟩ := bounds_u8 w1_2
  obtain ⟨u0, u1⟩ := bounds_u8 w1_3
  obtain ⟨p0, p1⟩ := bounds_u8 w1_4
  obtain ⟨c0, c1⟩ := bounds_u16 w1_5
  obtain ⟨m0, m1⟩ := bounds_u8 w2
  obtain ⟨a, rfl⟩ := Int.eq_ofNat_of_zero_le x0
  obtain ⟨x, rfl⟩ := Int.eq_ofNat_of_zero_le y0
  obtain ⟨y, rfl⟩ := Int.eq_ofNat_of_zero_le z0
  obtain ⟨t, rfl⟩ := Int.eq_ofNat_of_zero_le u0
  obtain ⟨p, rfl⟩ := Int.eq_ofNat_of_zero_le p0
  obtain ⟨c, rfl⟩ := Int.eq_ofNat_of_zero_le c0
  obtain ⟨m, rfl⟩ := Int.eq_ofNat_of_zero_le m0
  clear w1_0 w1_1 w1_2 w1_3 w1_4 w1_5 w2
  have hr : Rg.ok ⟨a, x, y, t, p, c⟩ := ⟨(by omega : a < 256), (by omega : x < 256), (by omega : y < 256), (by omega : t < 256), (by omega : p < 256), (by omega : c < 65536)⟩
  have hm : m < 256 := by omega
  have hp : p < 256 := by omega
  have RD : Hid (∀ w : World, Calls Try.prog 7 #[.string s, .agg #[.int .u8 (a : Int), .int .u8 (x : Int), .int .u8 (y : Int), .int .u8 (t : Int), .int .u8 (p : Int), .int .u16 (c : Int)], .int .u8 (m : Int)] w fun e w' => e = .returned (.agg (rV (rd s.toList ⟨a, x, y, t, p, c⟩ m))) ∧ Below w.heap.size w w') := fun w => Ex.Read s m ⟨a, x, y, t, p, c⟩ hm w hr
  have SF : Hid (∀ w : World, Calls Try.prog 12 #[.string s, .agg #[.int .u8 (a : Int), .int .u8 (x : Int), .int .u8 (y : Int), .int .u8 (t : Int), .int .u8 (p : Int), .int .u16 (c : Int)]] w fun e w' => e = .returned (.agg (rV (sf s.toList ⟨a, x, y, t, p, c⟩))) ∧ Below w.heap.size w w') := fun w => Ex.Self s ⟨a, x, y, t, p, c⟩ w hr
  have ST : Hid (∀ w : World, Calls Try.prog 18 #[.string s, .agg #[.int .u8 (a : Int), .int .u8 (x : Int), .int .u8 (y : Int), .int .u8 (t : Int), .int .u8 (p : Int), .int .u16 (c : Int)], .int .u8 (m : Int)] w fun e w' => e = .returned (.tuple #[.int .u8 ((stV s.toList ⟨a, x, y, t, p, c⟩ ((m + 1) % 256) : Nat) : Int), .agg (rV (stR s.toList ⟨a, x, y, t, p, c⟩))]) ∧ Below w.heap.size w w') := fun w => Ex.Store s m ⟨a, x, y, t, p, c⟩ hm w hr
  have TU : Hid (∀ w : World, Calls Try.prog 20 #[.string s, .agg #[.int .u8 (a : Int), .int .u8 (x : Int), .int .u8 (y : Int), .int .u8 (t : Int), .int .u8 (p : Int), .int .u16 (c : Int)], .int .u8 (m : Int)] w fun e w' => e = .returned (.tuple #[.int .u8 ((tuV s.toList ⟨a, x, y, t, p, c⟩ m : Nat) : Int), .agg (rV (tuR s.toList ⟨a, x, y, t, p, c⟩ m))]) ∧ Below w.heap.size w w') := fun w => Ex.TurnX s m ⟨a, x, y, t, p, c⟩ hm w hr
  have hR := rd_st s.toList ⟨a, x, y, t, p, c⟩ ⟨a, x, y, t, p, c⟩ m ⟨rfl, K.refl hp⟩
  have hS := sf_st s.toList ⟨a, x, y, t, p, c⟩ hp
  have hU := tu_st s.toList ⟨a, x, y, t, p, c⟩ m hp
  have hTp := stR_p s.toList ⟨a, x, y, t, p, c⟩
  have hTc := stR_pc s.toList ⟨a, x, y, t, p, c⟩
  generalize rd s.toList ⟨a, x, y, t, p, c⟩ m = R at RD hR
  generalize sf s.toList ⟨a, x, y, t, p, c⟩ = S at SF hS
  generalize tuV s.toList ⟨a, x, y, t, p, c⟩ m = vU at TU
  generalize tuR s.toList ⟨a, x, y, t, p, c⟩ m = U at TU hU
  generalize stV s.toList ⟨a, x, y, t, p, c⟩ ((m + 1) % 256) = vT at ST
  generalize stR s.toList ⟨a, x, y, t, p, c⟩ = T at ST hTp hTc
  obtain ⟨ra, rx, ry, rs, rp, rc⟩ := R
  obtain ⟨sa, sx, sy, ss, sp, sc⟩ := S
  obtain ⟨ta, tx, ty, ts, tp, tc⟩ := T
  obtain ⟨ua, ux, uy, us, up, uc⟩ := U
  obtain ⟨hR1, hR2⟩ := hR
  obtain ⟨hS1, hS2⟩ := hS
  obtain ⟨hU1, hU2⟩ := hU
  simp only at hR1 hR2 hS1 hS2 hU1 hU2 hTp hTc
  subst hR1 hS1 hU1 hTp hTc
  unfold rV at RD SF ST TU
  have n1 := (((hR2.z hp).or ((K.refl (k := 60) hp).z hp)).or (hU2.z hp)).none (by decide) 60 rfl
  have n2 := (hS2.z hp).none (by decide) 48 rfl
  clear hR2 hS2 hU2 hr
  go_enter Try.func6, Try.ntmps6
  go_wp2_with (fail)
  obtain ⟨wA, hwA⟩ : ∃ wA, wA = W.alloc (.cells #[.int .u8 (a : Int), .int .u8 (x : Int), .int .u8 (y : Int), .int .u8 (t : Int), .int .u8 (tp : Int), .int .u16 (tc : Int)] 24) := ⟨_, rfl⟩
  rw [← hwA]
  have HR : Hid (RAt wA W.heap.size 0 ⟨a, x, y, t, tp, tc⟩) := by
    show RAt _ _ _ _
    rw [hwA]; exact RAt.new W ⟨a, x, y, t, tp, tc⟩ _
  have HB : Hid (Below W.heap.size W wA) := by
    show Below _ _ _
    rw [hwA]; exact (Below.refl _ W).alloc (Nat.le_refl _) _
  clear hwA
  generalize hg : W.heap.size = gr at *
  have HG : Hid (W.heap.size = gr) := hg
  clear hg
  have r0 := HR.out.c0
  have r1 := HR.out.c1
  have r2 := HR.out.c2
  have r3 := HR.out.c3
  have r4 := HR.out.c4
  have r5 := HR.out.c5
  simp only [Nat.zero_add] at r1 r2 r3 r4 r5
  go_cut [8, 9] (fun s8 s9 wc => ∃ gA gB, s8 = .pointer (some ⟨gA, 0, none⟩) ∧ s9 = .pointer (some ⟨gB, 0, none⟩) ∧ RAt wc gA 0 ⟨ra, rx, ry, rs, rp, tc⟩ ∧ RAt wc gB 0 ⟨sa, sx, sy, ss, sp, tc⟩ ∧ RAt wc gr 0 ⟨a, x, y, t, tp, tc⟩ ∧ Below gr W wc)
  case first =>
    rename_i hJ hK
    have hlt : gr < wA.heap.size := HR.out.lt
    go_region_held3 (fun w' => w'.cell? ⟨gr, 0, none⟩ = some (.int .u8 (a : Int)) ∧ w'.cell? ⟨gr, 1, none⟩ = some (.int .u8 (x : Int)) ∧ w'.cell? ⟨gr, 2, none⟩ = some (.int .u8 (y : Int)) ∧ w'.cell? ⟨gr, 3, none⟩ = some (.int .u8 (t : Int)) ∧ w'.cell? ⟨gr, 4, none⟩ = some (.int .u8 (tp : Int)) ∧ w'.cell? ⟨gr, 5, none⟩ = some (.int .u16 (tc : Int))) (exact sOf (r := ⟨a, x, y, t, tp, tc⟩) (by repeat (first | with_reducible exact HR.out | with_reducible exact HR1.out | with_reducible exact HR2.out | with_reducible refine drewR ?_ | with_reducible refine allocR ?_ | with_reducible refine far ?_ (by omega)))) (first
      | (go_at_call 7; refine (RD.out _).mono ?_; rintro e w1 ⟨rfl, hB1⟩; have HB1 : Hid (Below _ _ w1) := hB1; have HW1 : Hid (Below gr W w1) := (by show Below _ _ _; refine Below.trans ?_ (hB1.mono ?_); (repeat (first | with_reducible exact HB.out | with_reducible refine belowD ?_ | with_reducible refine belowA ?_ (by (try simp); omega))); ((try simp); omega)); have hz1 := hB1.size; (try simp at hz1); have HR1 : Hid (RAt w1 gr 0 ⟨a, x, y, t, tp, tc⟩) := (by show RAt _ _ _ _; first | with_reducible exact (drewR HR.out).below hB1 | with_reducible exact (drewR (allocR HR.out)).below hB1 | with_reducible exact (drewR (allocR (allocR HR.out))).below hB1 | fail); (try (have Z1 : RAt w1 wA.heap.size 0 ⟨0, 0, 0, 0, 0, 0⟩ := (by first | with_reducible exact (drewR (newR rfl)).below hB1 | with_reducible exact (drewR (allocR (newR rfl))).below hB1 | fail); have HZ1 : Hid (RAt w1 wA.heap.size 0 ⟨0, 0, 0, 0, 0, 0⟩) := Z1; obtain ⟨z10, z11, z12, z13, z14, z15, z1f⟩ := Z1; simp only [Nat.zero_add] at z11 z12 z13 z14 z15)); (try (have Z2 : RAt w1 (wA.heap.size + 1) 0 ⟨0, 0, 0, 0, 0, 0⟩ := (by first | with_reducible exact (drewR newR2).below hB1 | fail); have HZ2 : Hid (RAt w1 (wA.heap.size + 1) 0 ⟨0, 0, 0, 0, 0, 0⟩) := Z2; obtain ⟨z20, z21, z22, z23, z24, z25, z2f⟩ := Z2; simp only [Nat.zero_add] at z21 z22 z23 z24 z25)))
      | (go_at_call 12; refine (SF.out _).mono ?_; rintro e w2 ⟨rfl, hB2⟩; have HB2 : Hid (Below _ _ w2) := hB2; have HW2 : Hid (Below gr W w2) := (by show Below _ _ _; refine Below.trans ?_ (hB2.mono ?_); (repeat (first | with_reducible exact HW1.out | with_reducible refine belowD ?_ | with_reducible refine belowA ?_ (by (try simp); omega))); ((try simp); omega)); have hz2 := hB2.size; (try simp at hz2); (try (have n0 : ¬ wA.heap.size = w1.heap.size := (by first | omega | fail))); (try (have n1 : ¬ wA.heap.size = w1.heap.size + 1 := (by first | omega | fail))); (try (have n2 : ¬ wA.heap.size = w2.heap.size := (by first | omega | fail))); (try (have n3 : ¬ wA.heap.size = w2.heap.size + 1 := (by first | omega | fail))); (try (have n4 : ¬ wA.heap.size + 1 = w1.heap.size := (by first | omega | fail))); (try (have n5 : ¬ wA.heap.size + 1 = w1.heap.size + 1 := (by first | omega | fail))); (try (have n6 : ¬ wA.heap.size + 1 = w2.heap.size := (by first | omega | fail))); (try (have n7 : ¬ wA.heap.size + 1 = w2.heap.size + 1 := (by first | omega | fail))); (try (have n8 : ¬ w1.heap.size = wA.heap.size := (by first | omega | fail))); (try (have n9 : ¬ w1.heap.size = wA.heap.size + 1 := (by first | omega | fail))); (try (have n10 : ¬ w1.heap.size = w2.heap.size := (by first | omega | fail))); (try (have n11 : ¬ w1.heap.size = w2.heap.size + 1 := (by first | omega | fail))); (try (have n12 : ¬ w1.heap.size + 1 = wA.heap.size := (by first | omega | fail))); (try (have n13 : ¬ w1.heap.size + 1 = wA.heap.size + 1 := (by first | omega | fail))); (try (have n14 : ¬ w1.heap.size + 1 = w2.heap.size := (by first | omega | fail))); (try (have n15 : ¬ w1.heap.size + 1 = w2.heap.size + 1 := (by first | omega | fail))); (try (have n16 : ¬ w2.heap.size = wA.heap.size := (by first | omega | fail))); (try (have n17 : ¬ w2.heap.size = wA.heap.size + 1 := (by first | omega | fail))); (try (have n18 : ¬ w2.heap.size = w1.heap.size := (by first | omega | fail))); (try (have n19 : ¬ w2.heap.size = w1.heap.size + 1 := (by first | omega | fail))); (try (have n20 : ¬ w2.heap.size + 1 = wA.heap.size := (by first | omega | fail))); (try (have n21 : ¬ w2.heap.size + 1 = wA.heap.size + 1 := (by first | omega | fail))); (try (have n22 : ¬ w2.heap.size + 1 = w1.heap.size := (by first | omega | fail))); (try (have n23 : ¬ w2.heap.size + 1 = w1.heap.size + 1 := (by first | omega | fail))); have HR2 : Hid (RAt w2 gr 0 ⟨a, x, y, t, tp, tc⟩) := (by show RAt _ _ _ _; first | with_reducible exact HR1.out.below hB2 | with_reducible exact (allocR HR1.out).below hB2 | with_reducible exact (allocR (allocR HR1.out)).below hB2 | fail); (try (have Z3 : RAt w2 wA.heap.size 0 ⟨0, 0, 0, 0, 0, 0⟩ := (by first | with_reducible exact HZ1.out.below hB2 | with_reducible exact (allocR HZ1.out).below hB2 | fail); have HZ3 : Hid (RAt w2 wA.heap.size 0 ⟨0, 0, 0, 0, 0, 0⟩) := Z3; have x30 : ∀ X, (w2.alloc X).cell? ⟨wA.heap.size, 0, none⟩ = _ := fun X => (allocR (X := X) HZ3.out).c0; have x31 : ∀ X, (w2.alloc X).cell? ⟨wA.heap.size, 1, none⟩ = _ := fun X => (allocR (X := X) HZ3.out).c1; have x32 : ∀ X, (w2.alloc X).cell? ⟨wA.heap.size, 2, none⟩ = _ := fun X => (allocR (X := X) HZ3.out).c2; have x33 : ∀ X, (w2.alloc X).cell? ⟨wA.heap.size, 3, none⟩ = _ := fun X => (allocR (X := X) HZ3.out).c3; have x34 : ∀ X, (w2.alloc X).cell? ⟨wA.heap.size, 4, none⟩ = _ := fun X => (allocR (X := X) HZ3.out).c4; have x35 : ∀ X, (w2.alloc X).cell? ⟨wA.heap.size, 5, none⟩ = _ := fun X => (allocR (X := X) HZ3.out).c5; have x3f : ∀ X j, (w2.alloc X).frozen? ⟨wA.heap.size, j, none⟩ = false := fun X j => (allocR (X := X) HZ3.out).fz j; obtain ⟨z30, z31, z32, z33, z34, z35, z3f⟩ := Z3; simp only [Nat.zero_add] at z31 z32 z33 z34 z35)); (try (have Z4 : RAt w2 (wA.heap.size + 1) 0 ⟨0, 0, 0, 0, 0, 0⟩ := (by first | with_reducible exact HZ2.out.below hB2 | fail); have HZ4 : Hid (RAt w2 (wA.heap.size + 1) 0 ⟨0, 0, 0, 0, 0, 0⟩) := Z4; have x40 : ∀ X, (w2.alloc X).cell? ⟨wA.heap.size + 1, 0, none⟩ = _ := fun X => (allocR (X := X) HZ4.out).c0; have x41 : ∀ X, (w2.alloc X).cell? ⟨wA.heap.size + 1, 1, none⟩ = _ := fun X => (allocR (X := X) HZ4.out).c1; have x42 : ∀ X, (w2.alloc X).cell? ⟨wA.heap.size + 1, 2, none⟩ = _ := fun X => (allocR (X := X) HZ4.out).c2; have x43 : ∀ X, (w2.alloc X).cell? ⟨wA.heap.size + 1, 3, none⟩ = _ := fun X => (allocR (X := X) HZ4.out).c3; have x44 : ∀ X, (w2.alloc X).cell? ⟨wA.heap.size + 1, 4, none⟩ = _ := fun X => (allocR (X := X) HZ4.out).c4; have x45 : ∀ X, (w2.alloc X).cell? ⟨wA.heap.size + 1, 5, none⟩ = _ := fun X => (allocR (X := X) HZ4.out).c5; have x4f : ∀ X j, (w2.alloc X).frozen? ⟨wA.heap.size + 1, j, none⟩ = false := fun X j => (allocR (X := X) HZ4.out).fz j; obtain ⟨z40, z41, z42, z43, z44, z45, z4f⟩ := Z4; simp only [Nat.zero_add] at z41 z42 z43 z44 z45)); (try (have Z5 : RAt w2 w1.heap.size 0 ⟨0, 0, 0, 0, 0, 0⟩ := (by first | with_reducible exact (newR rfl).below hB2 | with_reducible exact (allocR (newR rfl)).below hB2 | fail); have HZ5 : Hid (RAt w2 w1.heap.size 0 ⟨0, 0, 0, 0, 0, 0⟩) := Z5; have x50 : ∀ X, (w2.alloc X).cell? ⟨w1.heap.size, 0, none⟩ = _ := fun X => (allocR (X := X) HZ5.out).c0; have x51 : ∀ X, (w2.alloc X).cell? ⟨w1.heap.size, 1, none⟩ = _ := fun X => (allocR (X := X) HZ5.out).c1; have x52 : ∀ X, (w2.alloc X).cell? ⟨w1.heap.size, 2, none⟩ = _ := fun X => (allocR (X := X) HZ5.out).c2; have x53 : ∀ X, (w2.alloc X).cell? ⟨w1.heap.size, 3, none⟩ = _ := fun X => (allocR (X := X) HZ5.out).c3; have x54 : ∀ X, (w2.alloc X).cell? ⟨w1.heap.size, 4, none⟩ = _ := fun X => (allocR (X := X) HZ5.out).c4; have x55 : ∀ X, (w2.alloc X).cell? ⟨w1.heap.size, 5, none⟩ = _ := fun X => (allocR (X := X) HZ5.out).c5; have x5f : ∀ X j, (w2.alloc X).frozen? ⟨w1.heap.size, j, none⟩ = false := fun X j => (allocR (X := X) HZ5.out).fz j; obtain ⟨z50, z51, z52, z53, z54, z55, z5f⟩ := Z5; simp only [Nat.zero_add] at z51 z52 z53 z54 z55)); (try (have Z6 : RAt w2 (w1.heap.size + 1) 0 ⟨0, 0, 0, 0, 0, 0⟩ := (by first | with_reducible exact newR2.below hB2 | fail); have HZ6 : Hid (RAt w2 (w1.heap.size + 1) 0 ⟨0, 0, 0, 0, 0, 0⟩) := Z6; have x60 : ∀ X, (w2.alloc X).cell? ⟨w1.heap.size + 1, 0, none⟩ = _ := fun X => (allocR (X := X) HZ6.out).c0; have x61 : ∀ X, (w2.alloc X).cell? ⟨w1.heap.size + 1, 1, none⟩ = _ := fun X => (allocR (X := X) HZ6.out).c1; have x62 : ∀ X, (w2.alloc X).cell? ⟨w1.heap.size + 1, 2, none⟩ = _ := fun X => (allocR (X := X) HZ6.out).c2; have x63 : ∀ X, (w2.alloc X).cell? ⟨w1.heap.size + 1, 3, none⟩ = _ := fun X => (allocR (X := X) HZ6.out).c3; have x64 : ∀ X, (w2.alloc X).cell? ⟨w1.heap.size + 1, 4, none⟩ = _ := fun X => (allocR (X := X) HZ6.out).c4; have x65 : ∀ X, (w2.alloc X).cell? ⟨w1.heap.size + 1, 5, none⟩ = _ := fun X => (allocR (X := X) HZ6.out).c5; have x6f : ∀ X j, (w2.alloc X).frozen? ⟨w1.heap.size + 1, j, none⟩ = false := fun X j => (allocR (X := X) HZ6.out).fz j; obtain ⟨z60, z61, z62, z63, z64, z65, z6f⟩ := Z6; simp only [Nat.zero_add] at z61 z62 z63 z64 z65))))
    all_goals (refine hK _ _ (Met.intro (hJ _ _ ?_)); (repeat apply Exists.intro); refine ⟨?_, rfl⟩)
    all_goals
      refine ⟨_, _, rfl, rfl, ?_, ?_, ?_, ?_⟩
      · repeat (first | with_reducible exact HR2.out | with_reducible exact HZ3.out | with_reducible exact HZ4.out | with_reducible exact HZ5.out | with_reducible exact HZ6.out | with_reducible exact newV rfl | with_reducible exact newV2 | with_reducible exact newR rfl | with_reducible refine far6 ?_ (by omega) | with_reducible refine set6 ?_ | with_reducible refine allocR ?_)
      · repeat (first | with_reducible exact HR2.out | with_reducible exact HZ3.out | with_reducible exact HZ4.out | with_reducible exact HZ5.out | with_reducible exact HZ6.out | with_reducible exact newV rfl | with_reducible exact newV2 | with_reducible exact newR rfl | with_reducible refine far6 ?_ (by omega) | with_reducible refine set6 ?_ | with_reducible refine allocR ?_)
      · repeat (first | with_reducible exact HR2.out | with_reducible exact HZ3.out | with_reducible exact HZ4.out | with_reducible exact HZ5.out | with_reducible exact HZ6.out | with_reducible exact newV rfl | with_reducible exact newV2 | with_reducible exact newR rfl | with_reducible refine far6 ?_ (by omega) | with_reducible refine set6 ?_ | with_reducible refine allocR ?_)
      · repeat (first | with_reducible exact HW2.out | with_reducible refine belowS ?_ (by omega) | with_reducible refine belowA ?_ (by (try simp); omega))
  case rest =>
    obtain ⟨gA, gB, rfl, rfl, hA, hBb, hRr, hBw⟩ := hcut
    have HA : Hid (RAt wc gA 0 ⟨ra, rx, ry, rs, rp, tc⟩) := hA
    have HS : Hid (RAt wc gB 0 ⟨sa, sx, sy, ss, sp, tc⟩) := hBb
    have Hr : Hid (RAt wc gr 0 ⟨a, x, y, t, tp, tc⟩) := hRr
    have HW : Hid (Below gr W wc) := hBw
    clear hA hBb hRr hBw r0 r1 r2 r3 r4 r5 HR HB
    have e0 := Hr.out.c0
    have e1 := Hr.out.c1
    have e2 := Hr.out.c2
    have e3 := Hr.out.c3
    have e4 := Hr.out.c4
    have e5 := Hr.out.c5
    simp only [Nat.zero_add] at e1 e2 e3 e4 e5
    go_wp2_with (go_at_call 18; fail)
    clear e0 e1 e2 e3 e4 e5
    refine (ST.out _).mono ?_
    rintro e w3 ⟨rfl, hB3⟩
    have HA3 : Hid (RAt w3 gA 0 ⟨ra, rx, ry, rs, rp, tc⟩) := HA.out.below hB3
    have HS3 : Hid (RAt w3 gB 0 ⟨sa, sx, sy, ss, sp, tc⟩) := HS.out.below hB3
    have Hq : Hid (RAt w3 gr 0 ⟨a, x, y, t, tp, tc⟩) := Hr.out.below hB3
    have HW3 : Hid (Below gr W w3) := HW.out.trans (hB3.mono (sizeLe HW.out HG.out.symm))
    clear HA HS Hr HW hB3
    have q0 : ∀ X, (w3.alloc X).cell? ⟨gr, 0, none⟩ = some (.int .u8 (a : Int)) := fun X => (Hq.out.alloc X).c0
    have q1 : ∀ X, (w3.alloc X).cell? ⟨gr, 1, none⟩ = some (.int .u8 (x : Int)) := fun X => (Hq.out.alloc X).c1
    have q2 : ∀ X, (w3.alloc X).cell? ⟨gr, 2, none⟩ = some (.int .u8 (y : Int)) := fun X => (Hq.out.alloc X).c2
    have q3 : ∀ X, (w3.alloc X).cell? ⟨gr, 3, none⟩ = some (.int .u8 (t : Int)) := fun X => (Hq.out.alloc X).c3
    have q4 : ∀ X, (w3.alloc X).cell? ⟨gr, 4, none⟩ = some (.int .u8 (tp : Int)) := fun X => (Hq.out.alloc X).c4
    have q5 : ∀ X, (w3.alloc X).cell? ⟨gr, 5, none⟩ = some (.int .u16 (tc : Int)) := fun X => (Hq.out.alloc X).c5
    go_wp2_with (go_at_call 20; fail)
    clear q0 q1 q2 q3 q4 q5
    have HC : Hid (RAt (w3.alloc (.cells #[.int .u8 (ta : Int), .int .u8 (tx : Int), .int .u8 (ty : Int), .int .u8 (ts : Int), .int .u8 (tp : Int), .int .u16 (tc : Int)] 24)) w3.heap.size 0 ⟨ta, tx, ty, ts, tp, tc⟩) := RAt.new w3 ⟨ta, tx, ty, ts, tp, tc⟩ _
    have HA4 := HA3.out.alloc (.cells #[.int .u8 (ta : Int), .int .u8 (tx : Int), .int .u8 (ty : Int), .int .u8 (ts : Int), .int .u8 (tp : Int), .int .u16 (tc : Int)] 24)
    have HS4 := HS3.out.alloc (.cells #[.int .u8 (ta : Int), .int .u8 (tx : Int), .int .u8 (ty : Int), .int .u8 (ts : Int), .int .u8 (tp : Int), .int .u16 (tc : Int)] 24)
    have Hq4 := Hq.out.alloc (.cells #[.int .u8 (ta : Int), .int .u8 (tx : Int), .int .u8 (ty : Int), .int .u8 (ts : Int), .int .u8 (tp : Int), .int .u16 (tc : Int)] 24)
    have HW4 := HW3.out.alloc (sizeLe HW3.out HG.out.symm) (.cells #[.int .u8 (ta : Int), .int .u8 (tx : Int), .int .u8 (ty : Int), .int .u8 (ts : Int), .int .u8 (tp : Int), .int .u16 (tc : Int)] 24)
    generalize hwD : w3.alloc (.cells #[.int .u8 (ta : Int), .int .u8 (tx : Int), .int .u8 (ty : Int), .int .u8 (ts : Int), .int .u8 (tp : Int), .int .u16 (tc : Int)] 24) = wD at HC HA4 HS4 Hq4 HW4 ⊢
    generalize w3.heap.size = gC at *
    clear hwD HA3 HS3 Hq HW3
    refine (TU.out _).mono ?_
    rintro e w4 ⟨rfl, hB4⟩
    have Hi : Hid (RAt w4 gA 0 ⟨ra, rx, ry, rs, rp, tc⟩) := HA4.below hB4
    have Hj : Hid (RAt w4 gB 0 ⟨sa, sx, sy, ss, sp, tc⟩) := HS4.below hB4
    have Hk : Hid (RAt w4 gr 0 ⟨a, x, y, t, tp, tc⟩) := Hq4.below hB4
    have Hl : Hid (RAt w4 gC 0 ⟨ta, tx, ty, ts, tp, tc⟩) := HC.out.below hB4
    have HW5 : Hid (Below gr W w4) := HW4.trans (hB4.mono (sizeLe HW4 HG.out.symm))
    clear HC HA4 HS4 Hq4 HW4 hB4
    have i4 : ∀ X, (w4.alloc X).cell? ⟨gA, 4, none⟩ = some (.int .u8 (rp : Int)) := fun X => (Hi.out.alloc X).c4
    have i5 : ∀ X, (w4.alloc X).cell? ⟨gA, 5, none⟩ = some (.int .u16 (tc : Int)) := fun X => (Hi.out.alloc X).c5
    have j4 : ∀ X, (w4.alloc X).cell? ⟨gB, 4, none⟩ = some (.int .u8 (sp : Int)) := fun X => (Hj.out.alloc X).c4
    have j5 : ∀ X, (w4.alloc X).cell? ⟨gB, 5, none⟩ = some (.int .u16 (tc : Int)) := fun X => (Hj.out.alloc X).c5
    have k4 : ∀ X, (w4.alloc X).cell? ⟨gr, 4, none⟩ = some (.int .u8 (tp : Int)) := fun X => (Hk.out.alloc X).c4
    have k5 : ∀ X, (w4.alloc X).cell? ⟨gr, 5, none⟩ = some (.int .u16 (tc : Int)) := fun X => (Hk.out.alloc X).c5
    have l4 : ∀ X, (w4.alloc X).cell? ⟨gC, 4, none⟩ = some (.int .u8 (tp : Int)) := fun X => (Hl.out.alloc X).c4
    have l5 : ∀ X, (w4.alloc X).cell? ⟨gC, 5, none⟩ = some (.int .u16 (tc : Int)) := fun X => (Hl.out.alloc X).c5
    have HWx : Hid (∀ X, Below gr W (w4.alloc X)) := fun X => HW5.out.alloc (sizeLe HW5.out HG.out.symm) X
    go_wp2_with (go_at_call 11; refine (awake11 _).mono ?_; rintro e w5 ⟨rfl, hB5⟩)
    go_returns
    exact ⟨rfl, by rw [HG.out]; exact (HWx.out _).trans (hB5.mono (sizeLe (HWx.out _) HG.out.symm))⟩

end Go.Proofs.Ytenaegclnomklaa.execStays
