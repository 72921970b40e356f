/- Set of a thing: what may be its words, and what it is behind it. -/
import Derived.Test.YtienmoannnhhmaaDoorSpr8
import Derived.Test.YtienmoannnhhmaaDoorSpr3
set_option linter.unusedVariables false
namespace Go.Proofs.YtienmoannnhhmaaDoor.Sp
open Go.RowKit Count

theorem mayB_of {y z : Nat} (h : canB (y : Int) (z : Int) = true) : mayB y z := by
  unfold canB at h
  unfold mayB
  by_cases h8 : (y : Int) < 8
  · rw [if_pos h8] at h
    simp at h
    omega
  · rw [if_neg h8] at h
    simp at h
    omega
theorem canB_nat {y z : Int} (h : canB y z = true) : 0 ≤ y ∧ y ≤ 255 ∧ 0 ≤ z ∧ z ≤ 255 := by
  unfold canB at h
  by_cases h8 : y < 8
  · rw [if_pos h8] at h
    simp at h
    omega
  · rw [if_neg h8] at h
    simp at h
    omega

theorem DlAt.all {w : World} {b X Y u0 u1 u2 u3 : Nat} (h : DlAt w b 1 X) (hY : Y < 2 ^ 256) (hu : u0 = wd Y 0 ∧ u1 = wd Y 1 ∧ u2 = wd Y 2 ∧ u3 = wd Y 3) :
    DlAt ((((w.setCell ⟨b, 1, none⟩ (.int .u64 (u0 : Int))).setCell ⟨b, 2, none⟩ (.int .u64 (u1 : Int))).setCell ⟨b, 3, none⟩ (.int .u64 (u2 : Int))).setCell ⟨b, 4, none⟩ (.int .u64 (u3 : Int))) b 1 Y := by
  have j0 := h.c 0 (by decide)
  have j1 := h.c 1 (by decide)
  have j2 := h.c 2 (by decide)
  have j3 := h.c 3 (by decide)
  simp only [Nat.reduceAdd] at j0 j1 j2 j3
  refine ⟨fun i hi => ?_, fun i => by rw [World.frozen?_setCell, World.frozen?_setCell, World.frozen?_setCell, World.frozen?_setCell]; exact h.fz i, hY⟩
  rcases (show i = 0 ∨ i = 1 ∨ i = 2 ∨ i = 3 by omega) with rfl | rfl | rfl | rfl
  · rw [← hu.1]
    exact (World.cell?_setCell_other _ _ _ _ (by simp)).trans ((World.cell?_setCell_other _ _ _ _ (by simp)).trans ((World.cell?_setCell_other _ _ _ _ (by simp)).trans (World.cell?_setCell_same' _ _ _ (by rw [j0]; rfl))))
  · rw [← hu.2.1]
    exact (World.cell?_setCell_other _ _ _ _ (by simp)).trans ((World.cell?_setCell_other _ _ _ _ (by simp)).trans (World.cell?_setCell_same' _ _ _ (by rw [World.cell?_setCell_other _ _ _ _ (by simp), j1]; rfl)))
  · rw [← hu.2.2.1]
    exact (World.cell?_setCell_other _ _ _ _ (by simp)).trans (World.cell?_setCell_same' _ _ _ (by rw [World.cell?_setCell_other _ _ _ _ (by simp), World.cell?_setCell_other _ _ _ _ (by simp), j2]; rfl))
  · rw [← hu.2.2.2]
    exact World.cell?_setCell_same' _ _ _ (by rw [World.cell?_setCell_other _ _ _ _ (by simp), World.cell?_setCell_other _ _ _ _ (by simp), World.cell?_setCell_other _ _ _ _ (by simp), j3]; rfl)
set_option maxRecDepth 100000 in
set_option maxHeartbeats 2000000 in
theorem Set_no (b pb n X : Nat) (x y z : Int) (w : World) (hn : ¬ (canB y z = true ∧ 0 ≤ x ∧ x < 160)) (h : TAt w b pb n X) : Calls Tryd.prog 11 #[.pointer (some ⟨b, 0, none⟩), .agg #[.int .i64 x, .int .i64 y, .int .i64 z]] w fun e w' => e = .returned (.int .i64 6) ∧ TAt w' b pb n X ∧ Tn (S2 b pb) w w' := by
  have hBw : Below w.heap.size w (w.alloc (.cells #[.int .i64 x, .int .i64 y, .int .i64 z] 29)) := (Below.refl _ w).alloc (Nat.le_refl _) _
  have HB : Hid (Below w.heap.size w (w.alloc (.cells #[.int .i64 x, .int .i64 y, .int .i64 z] 29))) := hBw
  have HH : Hid (TAt (w.alloc (.cells #[.int .i64 x, .int .i64 y, .int .i64 z] 29)) b pb n X) := h.below hBw
  have hh := heap_alloc_new w (.cells #[.int .i64 x, .int .i64 y, .int .i64 z] 29)
  obtain ⟨q0, q1, q2⟩ := cell3 hh
  obtain ⟨v, hv⟩ : ∃ v, canB y z = v := ⟨_, rfl⟩
  have HV : Hid (canB y z = v) := hv
  have HN : Hid (¬ (canB y z = true ∧ 0 ≤ x ∧ x < 160)) := hn
  clear h hBw hv hn
  cases v
  · go_enter Tryd.func11, Tryd.ntmps11
    go_wp2
    generalize w.alloc (.cells #[.int .i64 x, .int .i64 y, .int .i64 z] 29) = wa at HB HH hh q0 q1 q2 ⊢
    go_quiet (fail)
    clear hh q0 q1 q2
    go_wp2_with (go_at_call 28; refine (canBe y z _).mono ?_; rintro e w2 ⟨rfl, rfl⟩; rw [HV.out])
    go_returns
    exact ⟨rfl, HH.out.draws nq, Tn.of_below _ (below_drewN HB.out nq)⟩
  · have hx : ¬ (0 ≤ x ∧ x < 160) := fun hx => HN.out ⟨HV.out, hx⟩
    have HE : Hid (cntE 160 x = 6 ∧ cntS 160 n x = n) := ⟨if_neg (by omega), if_neg (by omega)⟩
    clear hx
    go_enter Tryd.func11, Tryd.ntmps11
    go_wp2
    generalize w.alloc (.cells #[.int .i64 x, .int .i64 y, .int .i64 z] 29) = wa at HB HH hh q0 q1 q2 ⊢
    go_quiet (fail)
    clear hh q0 q1 q2
    have HH2 : Hid (TAt (wa.drewN nq) b pb n X) := HH.out.draws nq
    have HB2 : Hid (Below w.heap.size w (wa.drewN nq)) := below_drewN HB.out nq
    generalize wa.drewN nq = wb at HH2 HB2 ⊢
    clear HH HB
    have p0 := HH2.out.p0
    go_wp2_with (go_at_call 28; refine (canBe y z _).mono ?_; rintro e w2 ⟨rfl, hw2⟩; rw [hw2, HV.out]; clear hw2 w2)
    go_wp2_with (go_at_call 27; fail)
    refine (PlSet pb n x _ HH2.out.pl).mono ?_
    rintro e w3 ⟨rfl, hP, hT⟩
    rw [HE.out.1]
    rw [HE.out.2] at hP
    have hb := hT.block b HH2.out.lt HH2.out.ne
    have HA : Hid (TAt w3 b pb n X ∧ Tn (S2 b pb) w w3) := ⟨⟨(World.cell?_of_block (w := wb) hb).trans HH2.out.p0, hP, HH2.out.dl.kept hb, HH2.out.ne⟩, (Tn.of_below _ HB2.out).trans (Tn.of_touch hT (.inr rfl))⟩
    clear hP hT hb p0
    go_wp2
    go_returns
    exact ⟨rfl, HA.out.1, HA.out.2⟩

set_option maxRecDepth 100000 in
set_option maxHeartbeats 2000000 in
theorem Set_yesA (b pb n X m y z u0 u1 u2 u3 : Nat) (w : World) (hm : m < 160) (hyz : canB (y : Int) (z : Int) = true) (h0 : u0 = wd (2 ^ y ||| 2 ^ z) 0) (h1 : u1 = wd (2 ^ y ||| 2 ^ z) 1) (h2 : u2 = wd (2 ^ y ||| 2 ^ z) 2) (h3 : u3 = wd (2 ^ y ||| 2 ^ z) 3) (h : TAt w b pb n X) : Calls Tryd.prog 11 #[.pointer (some ⟨b, 0, none⟩), .agg #[.int .i64 (m : Int), .int .i64 (y : Int), .int .i64 (z : Int)]] w fun e w' => e = .returned (.int .i64 0) ∧ TAt w' b pb m (2 ^ y ||| 2 ^ z) ∧ Tn (S2 b pb) w w' := by
  have hBw : Below w.heap.size w (w.alloc (.cells #[.int .i64 (m : Int), .int .i64 (y : Int), .int .i64 (z : Int)] 29)) := (Below.refl _ w).alloc (Nat.le_refl _) _
  have HB : Hid (Below w.heap.size w (w.alloc (.cells #[.int .i64 (m : Int), .int .i64 (y : Int), .int .i64 (z : Int)] 29))) := hBw
  have HH : Hid (TAt (w.alloc (.cells #[.int .i64 (m : Int), .int .i64 (y : Int), .int .i64 (z : Int)] 29)) b pb n X) := h.below hBw
  have hh := heap_alloc_new w (.cells #[.int .i64 (m : Int), .int .i64 (y : Int), .int .i64 (z : Int)] 29)
  obtain ⟨q0, q1, q2⟩ := cell3 hh
  have hr := canB_nat hyz
  have HR : Hid (y ≤ 255 ∧ z ≤ 255) := ⟨by omega, by omega⟩
  have HV : Hid (canB (y : Int) (z : Int) = true) := hyz
  have HU : Hid (u0 = wd (2 ^ y ||| 2 ^ z) 0 ∧ u1 = wd (2 ^ y ||| 2 ^ z) 1 ∧ u2 = wd (2 ^ y ||| 2 ^ z) 2 ∧ u3 = wd (2 ^ y ||| 2 ^ z) 3) := ⟨h0, h1, h2, h3⟩
  have HE : Hid (cntE 160 (m : Int) = 0 ∧ cntS 160 n (m : Int) = m) := ⟨if_pos (by omega), (if_pos (by omega) : (if _ then _ else _) = _).trans (by omega)⟩
  clear h hBw hyz hr h0 h1 h2 h3 hm
  go_enter Tryd.func11, Tryd.ntmps11
  go_wp2
  generalize w.alloc (.cells #[.int .i64 (m : Int), .int .i64 (y : Int), .int .i64 (z : Int)] 29) = wa at HB HH hh q0 q1 q2 ⊢
  go_quiet (fail)
  clear hh q0 q1 q2
  have HH2 : Hid (TAt (wa.drewN nq) b pb n X) := HH.out.draws nq
  have HB2 : Hid (Below w.heap.size w (wa.drewN nq)) := below_drewN HB.out nq
  generalize wa.drewN nq = wb at HH2 HB2 ⊢
  clear HH HB
  have p0 := HH2.out.p0
  go_wp2_with (go_at_call 28; refine (canBe (y : Int) (z : Int) _).mono ?_; rintro e w2 ⟨rfl, hw2⟩; rw [hw2, HV.out]; clear hw2 w2)
  go_wp2_with (go_at_call 27; fail)
  refine (PlSet pb n (m : Int) _ HH2.out.pl).mono ?_
  rintro e w3 ⟨rfl, hP, hT⟩
  rw [HE.out.1]
  rw [HE.out.2] at hP
  have hb := hT.block b HH2.out.lt HH2.out.ne
  have HA : Hid (TAt w3 b pb m X) := (⟨(World.cell?_of_block (w := wb) hb).trans HH2.out.p0, hP, HH2.out.dl.kept hb, HH2.out.ne⟩ : TAt w3 b pb m X)
  have HT : Hid (Tn (S2 b pb) w w3) := (Tn.of_below _ HB2.out).trans (Tn.of_touch hT (.inr rfl))
  clear hP hT hb p0 HH2 HB2
  go_wp2_with (go_at_call 29; fail)
  refine (sinceA y z u0 u1 u2 u3 _ HR.out.1 HR.out.2 HU.out.1 HU.out.2.1 HU.out.2.2.1 HU.out.2.2.2).mono ?_
  rintro e w4 ⟨rfl, hB4⟩
  have HA4 : Hid (TAt w4 b pb m X) := HA.out.below hB4
  have HT4 : Hid (Tn (S2 b pb) w w4) := HT.out.trans (Tn.of_below _ hB4)
  clear hB4 HA HT
  have j0 := HA4.out.dl.c 0 (by decide)
  have j1 := HA4.out.dl.c 1 (by decide)
  have j2 := HA4.out.dl.c 2 (by decide)
  have j3 := HA4.out.dl.c 3 (by decide)
  have p4 := HA4.out.p0
  have f1 := HA4.out.dl.fz 1
  have f2 := HA4.out.dl.fz 2
  have f3 := HA4.out.dl.fz 3
  have f4 := HA4.out.dl.fz 4
  simp only [Nat.reduceAdd] at j0 j1 j2 j3
  go_wp2
  go_returns
  have hD := HA4.out.dl.all (two_lt HR.out.1 HR.out.2) HU.out
  have hT6 : Tn (fun k => k = b) w4 ((((w4.setCell ⟨b, 1, none⟩ (.int .u64 (u0 : Int))).setCell ⟨b, 2, none⟩ (.int .u64 (u1 : Int))).setCell ⟨b, 3, none⟩ (.int .u64 (u2 : Int))).setCell ⟨b, 4, none⟩ (.int .u64 (u3 : Int))) := ((((Tn.refl (fun k => k = b) w4).set b _ _ rfl).set b _ _ rfl).set b _ _ rfl).set b _ _ rfl
  refine ⟨rfl, ⟨?_, plkept HA4.out.pl (hT6.block pb HA4.out.pl.lt (Ne.symm HA4.out.ne)), hD, HA4.out.ne⟩, HT4.out.trans (hT6.mono fun k e => .inl e)⟩
  exact (World.cell?_setCell_other _ _ _ _ (by simp)).trans ((World.cell?_setCell_other _ _ _ _ (by simp)).trans ((World.cell?_setCell_other _ _ _ _ (by simp)).trans ((World.cell?_setCell_other _ _ _ _ (by simp)).trans p4)))

theorem Set_yes (b pb n X m y z : Nat) (w : World) (hm : m < 160) (hyz : canB (y : Int) (z : Int) = true) (h : TAt w b pb n X) : Calls Tryd.prog 11 #[.pointer (some ⟨b, 0, none⟩), .agg #[.int .i64 (m : Int), .int .i64 (y : Int), .int .i64 (z : Int)]] w fun e w' => e = .returned (.int .i64 0) ∧ TAt w' b pb m (2 ^ y ||| 2 ^ z) ∧ Tn (S2 b pb) w w' :=
  Set_yesA b pb n X m y z _ _ _ _ w hm hyz rfl rfl rfl rfl h

end Go.Proofs.YtienmoannnhhmaaDoor.Sp
