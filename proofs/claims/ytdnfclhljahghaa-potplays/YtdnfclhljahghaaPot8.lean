/- What Set of package pot does. -/
import Derived.Test.YtdnfclhljahghaaPot7
namespace Go.Proofs.Ytdnfclhljahghaa.Po
open Go.RowKit
set_option linter.unusedVariables false

set_option maxRecDepth 100000 in
set_option maxHeartbeats 2000000 in
theorem canBe_d (b : Nat) (p : Pt) (w : World) (h : PAt w b p) (hd : p.d = true) (hc : p.c ≠ 0) : Calls Try.prog 65 #[.pointer (some ⟨b, 0, none⟩)] w fun e w' => e = .returned (.bool p.can) ∧ Below w.heap.size w w' := by
  have c5 := h.r.at_ 5 _ rfl
  have c4 := h.r.at_ 4 _ rfl
  have HE : Hid (p.can = false) := (show p.can = false by simp [Pt.can, hd, hc])
  have hz : ((p.c : Int) != 0) = true := bne_iff_ne.2 (by omega)
  rw [hd] at c5
  clear h hd hc
  go_enter Try.func65, Try.ntmps65
  go_wp2
  go_returns
  exact ⟨ret_bool HE.out.symm, Below.refl _ _⟩

set_option maxRecDepth 100000 in
set_option maxHeartbeats 4000000 in
theorem canBe_n (b : Nat) (p : Pt) (w : World) (h : PAt w b p) (hd : p.d = false ∨ p.c = 0) : Calls Try.prog 65 #[.pointer (some ⟨b, 0, none⟩)] w fun e w' => e = .returned (.bool p.can) ∧ Below w.heap.size w w' := by
  have H : Hid (PAt w b p) := h
  obtain ⟨⟨-, -, -, -, c4, c5⟩, c6, c7, c8, c9, c10⟩ := h.all
  obtain ⟨x, hx⟩ : ∃ x, (p.t0 == un p.l p.h0 p.t0) = x := ⟨_, rfl⟩
  obtain ⟨y, hy⟩ : ∃ y, (p.t1 == un p.l p.h1 p.t1) = y := ⟨_, rfl⟩
  have HE : Hid (p.can = (x && y)) := (show p.can = (x && y) by unfold Pt.can; rw [hx, hy]; rcases hd with h | h <;> simp [h])
  obtain ⟨u0, hu0⟩ : ∃ u0, un p.l p.h0 p.t0 = u0 := ⟨_, rfl⟩
  obtain ⟨u1, hu1⟩ : ∃ u1, un p.l p.h1 p.t1 = u1 := ⟨_, rfl⟩
  have HU : Hid (un p.l p.h0 p.t0 = u0 ∧ un p.l p.h1 p.t1 = u1) := ⟨hu0, hu1⟩
  rw [hu0] at hx
  rw [hu1] at hy
  have q0 : ∀ w, (Op.equalIn 10000 94 (.agg #[.bool p.h0, .bool p.t0]) (.agg #[.bool p.h0, .bool u0])).run Try.prog w = .ok x w := fun w => by rw [eqB, hx]
  have q1 : ∀ w, (Op.equalIn 10000 94 (.agg #[.bool p.h1, .bool p.t1]) (.agg #[.bool p.h1, .bool u1])).run Try.prog w = .ok y w := fun w => by rw [eqB, hy]
  have j0 := idx0
  have j1 := idx1
  obtain ⟨d, hdd⟩ : ∃ d, p.d = d := ⟨_, rfl⟩
  have hz : d = true → ((p.c : Int) != 0) = false := fun e => by rcases hd with h | h <;> simp_all
  rw [hdd] at c5
  clear h hd hx hy hu0 hu1 hdd
  have HZ : Hid (d = true → ((p.c : Int) != 0) = false) := hz
  clear hz
  cases d
  all_goals
    have hz := HZ.out
    (try simp only [forall_const] at hz)
    clear HZ
    go_enter Try.func65, Try.ntmps65
    go_wp2_with (fail)
    refine wp_loop_rounds 4 ?_
    rw [rounds_succ]
    go_wp2_with (fail)
    generalize hw1 : w.alloc _ = w1
    have H1 : Hid (PAt w1 b p ∧ Below w.heap.size w w1) := by rw [← hw1]; exact ⟨H.out.alloc _, (Below.refl _ w).alloc (Nat.le_refl _) _⟩
    have y0 : w1.cell? ⟨w.heap.size, 0, none⟩ = some (.bool p.h0) := by rw [← hw1]; exact (Row.new w _ _).at_ 0 _ rfl
    have y1 : w1.cell? ⟨w.heap.size, 1, none⟩ = some (.bool p.t0) := by rw [← hw1]; exact (Row.new w _ _).at_ 1 _ rfl
    have d6 := H1.out.1.all.2.1
    have hY : w.heap.size < w1.heap.size := by rw [← hw1]; simp
    have hb1 := H1.out.1.lt
    clear hw1
    generalize hYY : w.heap.size = Y at y0 y1 hY ⊢
    have HY : Hid (w.heap.size = Y) := hYY
    clear hYY c4 c5 c6 c7 c8 c9 c10 hz
    go_region_held (fun w' => w'.cell? ⟨Y, 0, none⟩ = some (.bool p.h0) ∧ w'.cell? ⟨Y, 1, none⟩ = some (.bool p.t0) ∧ w'.cell? ⟨b, 6, none⟩ = some (.bool p.l)) (first | exact ⟨by assumption, by assumption, by assumption⟩ | go_keep) (first | (go_at_call 62; refine (under p.h0 p.t0 p.l _).mono ?_; rintro e w3 ⟨rfl, hB⟩; rw [HU.out.1]; have hB' : Below w1.heap.size w1 w3 := ⟨hB.os, hB.tape, hB.output, hB.size, hB.block⟩; have y0' := (hB'.cell (p := ⟨Y, 0, none⟩) hY).trans y0; have y1' := (hB'.cell (p := ⟨Y, 1, none⟩) hY).trans y1; have d6' := (hB'.cell (p := ⟨b, 6, none⟩) hb1).trans d6))
    all_goals
      have H3 : Hid (PAt w3 b p ∧ Below w.heap.size w w3) := ⟨H1.out.1.below hB', H1.out.2.trans (hB'.mono H1.out.2.size)⟩
      clear hB hB' y0 y1 y0' y1' d6 d6' hY hb1 H1
      cases x
      · go_wp2_with (fail)
        go_returns
        exact ⟨ret_bool (by rw [HE.out]; rfl), H3.out.2⟩
      go_wp2_with (fail)
      rw [rounds_succ]
      go_wp2_with (fail)
      generalize hw4 : w3.alloc _ = w4
      have H4 : Hid (PAt w4 b p ∧ Below w.heap.size w w4) := by rw [← hw4]; exact ⟨H3.out.1.alloc _, H3.out.2.trans (((Below.refl _ w3).alloc (Nat.le_refl _) _).mono H3.out.2.size)⟩
      have y0 : w4.cell? ⟨w3.heap.size, 0, none⟩ = some (.bool p.h1) := by rw [← hw4]; exact (Row.new w3 _ _).at_ 0 _ rfl
      have y1 : w4.cell? ⟨w3.heap.size, 1, none⟩ = some (.bool p.t1) := by rw [← hw4]; exact (Row.new w3 _ _).at_ 1 _ rfl
      have d6 := H4.out.1.all.2.1
      have hY : w3.heap.size < w4.heap.size := by rw [← hw4]; simp
      have hb1 := H4.out.1.lt
      clear hw4
      generalize w3.heap.size = Z at y0 y1 hY ⊢
      go_region_held (fun w' => w'.cell? ⟨Z, 0, none⟩ = some (.bool p.h1) ∧ w'.cell? ⟨Z, 1, none⟩ = some (.bool p.t1) ∧ w'.cell? ⟨b, 6, none⟩ = some (.bool p.l)) (first | exact ⟨by assumption, by assumption, by assumption⟩ | go_keep) (first | (go_at_call 62; refine (under p.h1 p.t1 p.l _).mono ?_; rintro e w5 ⟨rfl, hB⟩; rw [HU.out.2]; have hB' : Below w4.heap.size w4 w5 := ⟨hB.os, hB.tape, hB.output, hB.size, hB.block⟩; have y0' := (hB'.cell (p := ⟨Z, 0, none⟩) hY).trans y0; have y1' := (hB'.cell (p := ⟨Z, 1, none⟩) hY).trans y1; have d6' := (hB'.cell (p := ⟨b, 6, none⟩) hb1).trans d6))
      all_goals
        have H5 : Hid (Below w.heap.size w w5) := H4.out.2.trans (hB'.mono H4.out.2.size)
        clear hB hB' y0 y1 y0' y1' d6 d6' hY hb1 H3 H4
        cases y
        · go_wp2_with (fail)
          go_returns
          exact ⟨ret_bool (by rw [HE.out]; rfl), H5.out⟩
        go_wp2_with (fail)
        rw [rounds_succ]
        go_wp2_with (fail)
        go_returns
        exact ⟨ret_bool (by rw [HE.out]; rfl), H5.out⟩

theorem canBe (b : Nat) (p : Pt) (w : World) (h : PAt w b p) : Calls Try.prog 65 #[.pointer (some ⟨b, 0, none⟩)] w fun e w' => e = .returned (.bool p.can) ∧ Below w.heap.size w w' := by
  by_cases hd : p.d = true
  · by_cases hc : p.c = 0
    · exact canBe_n b p w h (.inr hc)
    · exact canBe_d b p w h hd hc
  · exact canBe_n b p w h (.inl (by simpa using hd))

set_option maxRecDepth 100000 in
set_option maxHeartbeats 2000000 in
theorem Set_no (b : Nat) (p : Pt) (w0 w1 w2 w3 w4 w5 w6 w7 w8 w9 w10 : Int) (w : World) (hn : wiB w0 w1 w2 w3 w4 w5 w6 w7 w8 w9 w10 = false) :
    Calls Try.prog 36 #[.pointer (some ⟨b, 0, none⟩), .agg #[.int .i64 w0, .int .i64 w1, .int .i64 w2, .int .i64 w3, .int .i64 w4, .int .i64 w5, .int .i64 w6, .int .i64 w7, .int .i64 w8, .int .i64 w9, .int .i64 w10]] w fun e w' => e = .returned (.int .i64 6) ∧ Below w.heap.size w w' := by
  have HN : Hid (wiB w0 w1 w2 w3 w4 w5 w6 w7 w8 w9 w10 = false) := hn
  clear hn
  go_enter Try.func36, Try.ntmps36
  go_wp2_with (go_at_call 63; fail)
  generalize hwa : w.alloc _ = wa
  have HA : Hid (Below w.heap.size w wa) := by rw [← hwa]; exact (Below.refl _ w).alloc (Nat.le_refl _) _
  clear hwa
  refine (areWithin w0 w1 w2 w3 w4 w5 w6 w7 w8 w9 w10 _).mono ?_
  rintro e wb ⟨rfl, hB⟩
  rw [HN.out]
  go_wp2
  go_returns
  exact ⟨rfl, HA.out.trans (hB.mono HA.out.size)⟩

set_option maxRecDepth 100000 in
set_option maxHeartbeats 4000000 in
theorem Set_p (b : Nat) (p q : Pt) (w : World) (hq : q.ok) (h : PAt w b p) :
    Calls Try.prog 36 #[.pointer (some ⟨b, 0, none⟩), .agg #[.int .i64 (q.v0 : Int), .int .i64 (q.v1 : Int), .int .i64 (q.v2 : Int), .int .i64 (q.v3 : Int), .int .i64 (q.c : Int), .int .i64 (oi q.d), .int .i64 (oi q.h0), .int .i64 (oi q.h1), .int .i64 (oi q.l), .int .i64 (oi q.t0), .int .i64 (oi q.t1)]] w fun e w' =>
      (q.can = true ∧ e = .returned (.int .i64 0) ∧ PAt w' b q ∧ Turn b w w') ∨ (q.can = false ∧ e = .returned (.int .i64 6) ∧ Below w.heap.size w w') := by
  have H : Hid (PAt w b p) := h
  have HQ : Hid q.ok := hq
  have HW : Hid (wiB (q.v0 : Int) q.v1 q.v2 q.v3 q.c (oi q.d) (oi q.h0) (oi q.h1) (oi q.l) (oi q.t0) (oi q.t1) = true) := by
    have oo : ∀ b, 0 ≤ oi b ∧ oi b ≤ 1 := by intro b; cases b <;> decide
    obtain ⟨a0, a1, a2, a3, a4⟩ := hq
    exact wiB_iff.2 ⟨⟨by omega, by omega, by omega, by omega, by omega⟩, oo _, oo _, oo _, oo _, oo _, oo _⟩
  clear h hq
  go_enter Try.func36, Try.ntmps36
  go_wp2_with (go_at_call 63; fail)
  generalize hwa : w.alloc _ = wa
  have HA : Hid (PAt wa b p ∧ Turn b w wa ∧ Row wa w.heap.size q.w ∧ Below w.heap.size w wa) := by rw [← hwa]; exact ⟨H.out.alloc _, (Turn.refl _ _).alloc _, Row.new w _ _, (Below.refl _ w).alloc (Nat.le_refl _) _⟩
  clear hwa
  generalize hBE : w.heap.size = B at HA ⊢
  have HBE : Hid (w.heap.size = B) := hBE
  clear hBE
  refine (areWithin _ _ _ _ _ _ _ _ _ _ _ _).mono ?_
  rintro e wb ⟨rfl, hB⟩
  rw [HW.out]
  have HB : Hid (PAt wb b p ∧ Turn b w wb ∧ Row wb B q.w ∧ Below B w wb) := ⟨HA.out.1.below hB, HA.out.2.1.belowR hB, HA.out.2.2.1.below (by simp [Pt.w]) hB, HA.out.2.2.2.trans (hB.mono (by have := HA.out.2.2.2.size; have := HBE.out; omega))⟩
  clear hB HA
  have x0 := HB.out.2.2.1.at_ 0 _ rfl
  have x1 := HB.out.2.2.1.at_ 1 _ rfl
  have x2 := HB.out.2.2.1.at_ 2 _ rfl
  have x3 := HB.out.2.2.1.at_ 3 _ rfl
  have x4 := HB.out.2.2.1.at_ 4 _ rfl
  have x5 := HB.out.2.2.1.at_ 5 _ rfl
  have x6 := HB.out.2.2.1.at_ 6 _ rfl
  have x7 := HB.out.2.2.1.at_ 7 _ rfl
  have x8 := HB.out.2.2.1.at_ 8 _ rfl
  have x9 := HB.out.2.2.1.at_ 9 _ rfl
  have x10 := HB.out.2.2.1.at_ 10 _ rfl
  go_wp2_with (go_at_call 64; fail)
  refine (of q HQ.out _).mono ?_
  rintro e wc ⟨rfl, hB⟩
  have HC : Hid (PAt wc b p ∧ Turn b w wc ∧ Below B w wc ∧ B ≤ wc.heap.size) := ⟨HB.out.1.below hB, HB.out.2.1.belowR hB, HB.out.2.2.2.trans (hB.mono (by have := HB.out.2.2.2.size; have := HBE.out; omega)), by have := hB.size; have := HB.out.2.2.2.size; have := HBE.out; omega⟩
  clear hB HB x0 x1 x2 x3 x4 x5 x6 x7 x8 x9 x10
  go_wp2_with (go_at_call 65; fail)
  generalize hwd : wc.alloc _ = wd
  have HD : Hid (PAt wd b p ∧ Turn b w wd ∧ PAt wd wc.heap.size q ∧ Below B w wd ∧ B ≤ wd.heap.size) := by
    rw [← hwd]; exact ⟨HC.out.1.alloc _, HC.out.2.1.alloc _, ⟨Row.new wc _ _, HQ.out⟩, HC.out.2.2.1.alloc HC.out.2.2.2 _, by simp; have := HC.out.2.2.2; omega⟩
  have hbx : ¬ b = wc.heap.size := by have := HC.out.1.lt; omega
  clear hwd HC
  generalize wc.heap.size = X at HD hbx ⊢
  refine (canBe X q _ HD.out.2.2.1).mono ?_
  rintro e wf ⟨rfl, hB⟩
  have HF : Hid (PAt wf b p ∧ Turn b w wf ∧ PAt wf X q ∧ Below B w wf) := ⟨HD.out.1.below hB, HD.out.2.1.belowR hB, HD.out.2.2.1.below hB, HD.out.2.2.2.1.trans (hB.mono HD.out.2.2.2.2)⟩
  clear hB HD
  obtain ⟨y, hy⟩ : ∃ y, q.can = y := ⟨_, rfl⟩
  have HY : Hid (q.can = y) := hy
  rw [hy]
  clear hy
  cases y
  · go_wp2
    go_returns
    exact .inr ⟨HY.out, rfl, by rw [HBE.out]; exact HF.out.2.2.2⟩
  · have x0 := HF.out.2.2.1.r.at_ 0 _ rfl
    have r0 := HF.out.1.r.at_ 0 _ rfl
    have g0 := HF.out.1.r.fz 0
    have x1 := HF.out.2.2.1.r.at_ 1 _ rfl
    have r1 := HF.out.1.r.at_ 1 _ rfl
    have g1 := HF.out.1.r.fz 1
    have x2 := HF.out.2.2.1.r.at_ 2 _ rfl
    have r2 := HF.out.1.r.at_ 2 _ rfl
    have g2 := HF.out.1.r.fz 2
    have x3 := HF.out.2.2.1.r.at_ 3 _ rfl
    have r3 := HF.out.1.r.at_ 3 _ rfl
    have g3 := HF.out.1.r.fz 3
    have x4 := HF.out.2.2.1.r.at_ 4 _ rfl
    have r4 := HF.out.1.r.at_ 4 _ rfl
    have g4 := HF.out.1.r.fz 4
    have x5 := HF.out.2.2.1.r.at_ 5 _ rfl
    have r5 := HF.out.1.r.at_ 5 _ rfl
    have g5 := HF.out.1.r.fz 5
    have x6 := HF.out.2.2.1.r.at_ 6 _ rfl
    have r6 := HF.out.1.r.at_ 6 _ rfl
    have g6 := HF.out.1.r.fz 6
    have x7 := HF.out.2.2.1.r.at_ 7 _ rfl
    have r7 := HF.out.1.r.at_ 7 _ rfl
    have g7 := HF.out.1.r.fz 7
    have x8 := HF.out.2.2.1.r.at_ 8 _ rfl
    have r8 := HF.out.1.r.at_ 8 _ rfl
    have g8 := HF.out.1.r.fz 8
    have x9 := HF.out.2.2.1.r.at_ 9 _ rfl
    have r9 := HF.out.1.r.at_ 9 _ rfl
    have g9 := HF.out.1.r.fz 9
    have x10 := HF.out.2.2.1.r.at_ 10 _ rfl
    have r10 := HF.out.1.r.at_ 10 _ rfl
    have g10 := HF.out.1.r.fz 10
    go_wp2
    go_returns
    exact .inl ⟨HY.out, rfl, ⟨(((((((((((HF.out.1.r.put 0 _).put 1 _).put 2 _).put 3 _).put 4 _).put 5 _).put 6 _).put 7 _).put 8 _).put 9 _).put 10 _).to rfl, HQ.out⟩, (((((((((((HF.out.2.1.set 0 _).set 1 _).set 2 _).set 3 _).set 4 _).set 5 _).set 6 _).set 7 _).set 8 _).set 9 _).set 10 _)⟩

end Go.Proofs.Ytdnfclhljahghaa.Po
