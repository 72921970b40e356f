/- What Set and Copy of package tone do; many ticks. (Written by wip/gen/gen_tone8.py.) -/
import Derived.Test.YtdnfclhljahghaaTone6
import Derived.Test.YtdnfclhljahghaaTone7
import Derived.Deep.RegionHeld
namespace Go.Proofs.Ytdnfclhljahghaa.To
open Go.RowKit
set_option linter.unusedVariables false

set_option maxRecDepth 100000 in
set_option maxHeartbeats 2000000 in
theorem Set_no (b : Nat) (x0 x1 x2 x3 x4 x5 x6 x7 : Int) (w : World) (hn : rightV x0 x1 x2 x3 x4 x5 x6 x7 = false) : Calls Try.prog 23 #[.pointer (some ⟨b, 0, none⟩), .agg #[.int .i64 x0, .int .i64 x1, .int .i64 x2, .int .i64 x3, .int .i64 x4, .int .i64 x5, .int .i64 x6, .int .i64 x7]] w fun e w' => e = .returned (.int .i64 6) ∧ Below w.heap.size w w' := by
  have HN : Hid (rightV x0 x1 x2 x3 x4 x5 x6 x7 = false) := hn
  clear hn
  go_enter Try.func23, Try.ntmps23
  go_wp2_with (go_at_call 57; fail)
  generalize hwa : w.alloc _ = wa
  have HA : Hid (Below w.heap.size w wa) := by rw [← hwa]; exact (Below.refl _ w).alloc (Nat.le_refl _) _
  clear hwa
  refine (canBe x0 x1 x2 x3 x4 x5 x6 x7 _).mono ?_
  rintro e wb ⟨rfl, hB⟩
  rw [HN.out]
  go_wp2
  go_returns
  exact ⟨rfl, HA.out.trans (hB.mono HA.out.size)⟩

/-- Under way: the voice b, the words' box X. -/
structure Sb (W : World) (b : Nat) (q : Vo) (X : Nat) (p : Vo) (w : World) : Prop where
  a : VAt w b p
  x : Row w X q.w
  t : Turn b W w
  ne : ¬ b = X
  sz : X < w.heap.size
section
variable {W w w' : World} {b X : Nat} {p p' q : Vo}
theorem Sb.put (h : Sb W b q X p w) (i : Nat) (v : Go.Value) (e : p.cells.set i v = p'.cells) (hk : p'.ok) : Sb W b q X p' (w.setCell ⟨b, i, none⟩ v) :=
  ⟨⟨(h.a.r.put i v).to e, hk⟩, h.x.far v (fun e => h.ne e.symm), h.t.set _ _, h.ne, by simpa [World.setCell] using h.sz⟩
theorem Sb.draws (h : Sb W b q X p w) (n : Nat) : Sb W b q X p (w.drewN n) := ⟨h.a.draws n, h.x.draws n, h.t.drewsR n, h.ne, h.sz⟩
theorem Sb.below (h : Sb W b q X p w) (hb : Below w.heap.size w w') : Sb W b q X p w' := ⟨h.a.below hb, h.x.below (by simp [Vo.w]) hb, h.t.belowR hb, h.ne, Nat.lt_of_lt_of_le h.sz hb.size⟩
theorem Sb.drew (h : Sb W b q X p w) : Sb W b q X p w.drew := h.draws 1
end

theorem right_of {q : Vo} (h : q.ok) (hk : q.k ≤ 95) : rightV (q.c : Int) (q.r : Int) (q.v : Int) (q.f4 : Int) (q.f5 : Int) (q.f9 : Int) (q.k : Int) (oi q.hi) = true := by
  have oo : 0 ≤ oi q.hi ∧ oi q.hi ≤ 1 := by cases q.hi <;> decide
  obtain ⟨a0, a1, a2, a3, a4, a5, a6⟩ := h
  exact decide_eq_true ⟨by omega, by omega, by omega, by omega, by omega, by omega, by omega, oo⟩

set_option maxRecDepth 100000 in
set_option maxHeartbeats 4000000 in
theorem Set_yes (b : Nat) (p q : Vo) (w : World) (h : VAt w b p) (hq : q.ok) (hk : q.k ≤ 95) : Calls Try.prog 23 #[.pointer (some ⟨b, 0, none⟩), .agg #[.int .i64 (q.c : Int), .int .i64 (q.r : Int), .int .i64 (q.v : Int), .int .i64 (q.f4 : Int), .int .i64 (q.f5 : Int), .int .i64 (q.f9 : Int), .int .i64 (q.k : Int), .int .i64 (oi q.hi)]] w fun e w' => e = .returned (.int .i64 0) ∧ VAt w' b q ∧ Turn b w w' := by
  have H : Hid (VAt w b p) := h
  have HQ : Hid q.ok := hq
  have HR : Hid (rightV (q.c : Int) (q.r : Int) (q.v : Int) (q.f4 : Int) (q.f5 : Int) (q.f9 : Int) (q.k : Int) (oi q.hi) = true) := right_of hq hk
  obtain ⟨a0, a1, a2, a3, a4, a5, a6⟩ := hq
  have m0 : (q.c : Int) % 256 = q.c := by omega
  have u0 : IntKind.u8.wrap (q.c : Int) = q.c := by show (q.c : Int) % 256 = q.c; omega
  have m1 : (q.r : Int) % 256 = q.r := by omega
  have u1 : IntKind.u8.wrap (q.r : Int) = q.r := by show (q.r : Int) % 256 = q.r; omega
  have m2 : (q.v : Int) % 256 = q.v := by omega
  have u2 : IntKind.u8.wrap (q.v : Int) = q.v := by show (q.v : Int) % 256 = q.v; omega
  have m3 : (q.f4 : Int) % 256 = q.f4 := by omega
  have u3 : IntKind.u8.wrap (q.f4 : Int) = q.f4 := by show (q.f4 : Int) % 256 = q.f4; omega
  have m4 : (q.f5 : Int) % 256 = q.f5 := by omega
  have u4 : IntKind.u8.wrap (q.f5 : Int) = q.f5 := by show (q.f5 : Int) % 256 = q.f5; omega
  have m5 : (q.f9 : Int) % 65536 = q.f9 := by omega
  have u5 : IntKind.u16.wrap (q.f9 : Int) = q.f9 := by show (q.f9 : Int) % 65536 = q.f9; omega
  have hoi := oi_eq q.hi
  clear h
  go_enter Try.func23, Try.ntmps23
  go_wp2_with (go_at_call 57; fail)
  generalize hwa : w.alloc _ = wa
  have HA : Hid (Sb w b q w.heap.size p wa) := by
    rw [← hwa]; exact ⟨H.out.alloc _, Row.new w _ _, (Turn.refl _ _).alloc _, by have := H.out.lt; omega, by simp⟩
  clear hwa
  generalize w.heap.size = X at HA ⊢
  refine (canBe _ _ _ _ _ _ _ _ _).mono ?_
  rintro e wb ⟨rfl, hB⟩
  rw [HR.out]
  have HB : Hid (Sb w b q X p wb) := HA.out.below hB
  clear hB HA
  have hbX := HB.out.ne
  have hXb : ¬ X = b := fun e => hbX e.symm
  have y0 := HB.out.x.at_ 0 _ rfl
  have y1 := HB.out.x.at_ 1 _ rfl
  have y2 := HB.out.x.at_ 2 _ rfl
  have c0 := HB.out.a.r.at_ 0 _ rfl
  have f0 := HB.out.a.r.fz 0
  have c1 := HB.out.a.r.at_ 1 _ rfl
  have f1 := HB.out.a.r.fz 1
  have c2 := HB.out.a.r.at_ 2 _ rfl
  have f2 := HB.out.a.r.fz 2
  go_wp2_with (fail)
  go_region_held (fun w' => w'.cell? ⟨X, 0, none⟩ = some (.int .i64 (q.c : Int)) ∧ w'.cell? ⟨X, 1, none⟩ = some (.int .i64 (q.r : Int)) ∧ w'.cell? ⟨X, 2, none⟩ = some (.int .i64 (q.v : Int))) (first | exact ⟨by assumption, by assumption, by assumption⟩ | go_keep) (fail)
  generalize hwc : World.drew _ = wc
  have HC : Hid (Sb w b q X ⟨q.c, q.r, q.v, p.f4, p.f5, p.f9, p.k, p.hi⟩ wc) := by
    rw [← hwc]
    exact (((HB.out.put 0 _ (p' := ⟨q.c, p.r, p.v, p.f4, p.f5, p.f9, p.k, p.hi⟩) rfl ⟨HQ.out.c, H.out.ok.r, H.out.ok.v, H.out.ok.f4, H.out.ok.f5, H.out.ok.f9, H.out.ok.k⟩).put 1 _ (p' := ⟨q.c, q.r, p.v, p.f4, p.f5, p.f9, p.k, p.hi⟩) rfl ⟨HQ.out.c, HQ.out.r, H.out.ok.v, H.out.ok.f4, H.out.ok.f5, H.out.ok.f9, H.out.ok.k⟩).put 2 _ (p' := ⟨q.c, q.r, q.v, p.f4, p.f5, p.f9, p.k, p.hi⟩) rfl ⟨HQ.out.c, HQ.out.r, HQ.out.v, H.out.ok.f4, H.out.ok.f5, H.out.ok.f9, H.out.ok.k⟩).drew
  clear hwc HB y0 y1 y2 c0 f0 c1 f1 c2 f2
  have y3 := HC.out.x.at_ 3 _ rfl
  go_wp2_with (fail)
  refine wp_region_then 6 1 (by kernel_rfl) (by kernel_rfl) ?_
  simp only [List.take_succ_cons, List.take_zero, List.drop_succ_cons, List.drop_zero]
  repeat (go_big_quiet_step (fail))
  refine wpQuiet_nil ?_
  rintro _ ⟨nq3, rfl⟩
  go_wp2_with (go_at_call 58; fail)
  refine (Poly8.Set_yes b 3 p.f4 4 1 q.f4 _ ⟨by decide, by decide, by decide, HQ.out.f4⟩ (HC.out.draws _).a.p4).mono ?_
  rintro e wx3 ⟨rfl, hwx⟩
  have HD : Hid (Sb w b q X ⟨q.c, q.r, q.v, q.f4, p.f5, p.f9, p.k, p.hi⟩ wx3) := by
    rw [hwx]
    exact (HC.out.draws _).put 3 _ (p' := ⟨q.c, q.r, q.v, q.f4, p.f5, p.f9, p.k, p.hi⟩) rfl ⟨HQ.out.c, HQ.out.r, HQ.out.v, HQ.out.f4, H.out.ok.f5, H.out.ok.f9, H.out.ok.k⟩
  clear hwx HC y3
  have y4 := HD.out.x.at_ 4 _ rfl
  go_wp2_with (fail)
  refine wp_region_then 6 1 (by kernel_rfl) (by kernel_rfl) ?_
  simp only [List.take_succ_cons, List.take_zero, List.drop_succ_cons, List.drop_zero]
  repeat (go_big_quiet_step (fail))
  refine wpQuiet_nil ?_
  rintro _ ⟨nq4, rfl⟩
  go_wp2_with (go_at_call 58; fail)
  refine (Poly8.Set_yes b 6 p.f5 5 2 q.f5 _ ⟨by decide, by decide, by decide, HQ.out.f5⟩ (HD.out.draws _).a.p5).mono ?_
  rintro e wx4 ⟨rfl, hwx⟩
  have HE : Hid (Sb w b q X ⟨q.c, q.r, q.v, q.f4, q.f5, p.f9, p.k, p.hi⟩ wx4) := by
    rw [hwx]
    exact (HD.out.draws _).put 6 _ (p' := ⟨q.c, q.r, q.v, q.f4, q.f5, p.f9, p.k, p.hi⟩) rfl ⟨HQ.out.c, HQ.out.r, HQ.out.v, HQ.out.f4, HQ.out.f5, H.out.ok.f9, H.out.ok.k⟩
  clear hwx HD y4
  have y5 := HE.out.x.at_ 5 _ rfl
  go_wp2_with (fail)
  refine wp_region_then 6 1 (by kernel_rfl) (by kernel_rfl) ?_
  simp only [List.take_succ_cons, List.take_zero, List.drop_succ_cons, List.drop_zero]
  repeat (go_big_quiet_step (fail))
  refine wpQuiet_nil ?_
  rintro _ ⟨nq5, rfl⟩
  go_wp2_with (go_at_call 59; fail)
  refine (Poly16.Set_yes b 9 p.f9 9 4 q.f9 _ ⟨by decide, by decide, by decide, HQ.out.f9⟩ (HE.out.draws _).a.p9).mono ?_
  rintro e wx5 ⟨rfl, hwx⟩
  have HF : Hid (Sb w b q X ⟨q.c, q.r, q.v, q.f4, q.f5, q.f9, p.k, p.hi⟩ wx5) := by
    rw [hwx]
    exact (HE.out.draws _).put 9 _ (p' := ⟨q.c, q.r, q.v, q.f4, q.f5, q.f9, p.k, p.hi⟩) rfl ⟨HQ.out.c, HQ.out.r, HQ.out.v, HQ.out.f4, HQ.out.f5, HQ.out.f9, H.out.ok.k⟩
  clear hwx HE y5
  have y6 := HF.out.x.at_ 6 _ rfl
  have y7 := HF.out.x.at_ 7 _ rfl
  have c12 := HF.out.a.r.at_ 12 _ rfl
  have f12 := HF.out.a.r.fz 12
  have c13 := HF.out.a.r.at_ 13 _ rfl
  have f13 := HF.out.a.r.fz 13
  go_wp2_with (fail)
  go_region_held (fun w' => w'.cell? ⟨X, 6, none⟩ = some (.int .i64 (q.k : Int)) ∧ w'.cell? ⟨X, 7, none⟩ = some (.int .i64 (oi q.hi))) (first | exact ⟨by assumption, by assumption⟩ | go_keep) (fail)
  generalize hwc : World.drew _ = wz
  have HG : Hid (Sb w b q X q wz) := by
    rw [← hwc]
    exact ((HF.out.put 12 _ (p' := ⟨q.c, q.r, q.v, q.f4, q.f5, q.f9, q.k, p.hi⟩) rfl ⟨HQ.out.c, HQ.out.r, HQ.out.v, HQ.out.f4, HQ.out.f5, HQ.out.f9, HQ.out.k⟩).put 13 _ (p' := q) rfl HQ.out).drew
  clear hwc HF
  go_wp2
  go_returns
  exact ⟨rfl, HG.out.a, HG.out.t⟩

set_option maxRecDepth 100000 in
set_option maxHeartbeats 2000000 in
theorem Copy (b : Nat) (p : Vo) (w : World) (h : VAt w b p) : Calls Try.prog 24 #[.pointer (some ⟨b, 0, none⟩)] w fun e w' => ∃ b', e = .returned (.pointer (some ⟨b', 0, none⟩)) ∧ w.heap.size ≤ b' ∧ VAt w' b' p ∧ Below w.heap.size w w' := by
  have H : Hid (VAt w b p) := h
  have c0 := h.r.at_ 0 _ rfl
  have c1 := h.r.at_ 1 _ rfl
  have c2 := h.r.at_ 2 _ rfl
  have c3 := h.r.at_ 3 _ rfl
  have c4 := h.r.at_ 4 _ rfl
  have c5 := h.r.at_ 5 _ rfl
  have c6 := h.r.at_ 6 _ rfl
  have c7 := h.r.at_ 7 _ rfl
  have c8 := h.r.at_ 8 _ rfl
  have c9 := h.r.at_ 9 _ rfl
  have c10 := h.r.at_ 10 _ rfl
  have c11 := h.r.at_ 11 _ rfl
  have c12 := h.r.at_ 12 _ rfl
  have c13 := h.r.at_ 13 _ rfl
  clear h
  go_enter Try.func24, Try.ntmps24
  go_wp2
  go_returns
  exact ⟨_, rfl, Nat.le_refl _, ⟨Row.new w _ _, H.out.ok⟩, (Below.refl _ w).alloc (Nat.le_refl _) _⟩

def tk : Nat → Vo → Vo
  | 0, p => p
  | n + 1, p => (tk n p).tick

set_option maxRecDepth 100000 in
set_option maxHeartbeats 2000000 in
theorem ticked {W w : World} {b : Nat} {p : Vo} (n : Nat) (hn : n ≤ 1000000) (h : Vb W b p w) : Calls Try.prog 22 #[.pointer (some ⟨b, 0, none⟩), .int .i64 (n : Int)] w fun e w' => e = .returned (.tuple #[]) ∧ Vb W b (tk n p) w' ∧ Turn b w w' := by
  have H : Hid (Vb W b p w) := h
  clear h
  go_enter Try.func22, Try.ntmps22
  go_wp2_with (fail)
  go_loopw [4] (fun v wr => ∃ i : Nat, i ≤ n ∧ v = .int .i64 (i : Int) ∧ Vb W b (tk i p) wr ∧ Turn b w wr) (fun v _ => n - (intOf v).toNat)
  case atStart => exact ⟨0, by omega, rfl, H.out, Turn.refl _ _⟩
  case round =>
    obtain ⟨i, hi, rfl, hR⟩ := hrel
    have HR : Hid (Vb W b (tk i p) wr ∧ Turn b w wr) := hR
    clear hR H
    by_cases hin : i < n
    · go_wp2_with (go_at_call 25; fail)
      refine (Tick b (tk i p) _ HR.out.1.a HR.out.1.k).mono ?_
      rintro e w4 ⟨rfl, h, ht⟩
      have H4 : Hid (Vb W b (tk (i + 1) p) w4 ∧ Turn b w w4) := ⟨HR.out.1.turn h ht (Vo.tick_k HR.out.1.a.ok HR.out.1.k), HR.out.2.trans ht⟩
      clear h ht HR
      go_wp2_with (fail)
      go_roundw
      case rel => exact ⟨i + 1, by omega, by go_num, H4.out⟩
      case measure => simp [intOf]; omega
    · have hin' : i = n := by omega
      subst hin'
      go_wp2
      go_end0
      exact ⟨rfl, HR.out⟩

end Go.Proofs.Ytdnfclhljahghaa.To
