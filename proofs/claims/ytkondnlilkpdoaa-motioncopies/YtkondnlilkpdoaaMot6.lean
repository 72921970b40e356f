/- What a motion's step does, while it is under way. -/
import Derived.Test.YtkondnlilkpdoaaMot5
set_option linter.unusedVariables false
namespace Go.Proofs.Ytkondnlilkpdoaa.Mo
open Go.RowKit

set_option maxRecDepth 100000 in
set_option maxHeartbeats 4000000 in
theorem Step_wait (b c g v n0 n1 n2 n3 n4 : Nat) (N : Nat → Nat) (clock : Int) (w : World) (hN : five n0 n1 n2 n3 n4 = N) (hc : c < 16) (hg : g < 3) (h0 : n0 < 256) (h1 : n1 < 256) (h2 : n2 < 256) (h3 : n3 < 256) (h4 : n4 < 256) (h : MAt w b c g v) : Calls Try.prog 16 #[.pointer (some ⟨b, 0, none⟩), .int .i64 clock, .agg #[.int .u8 (n0 : Int), .int .u8 (n1 : Int), .int .u8 (n2 : Int), .int .u8 (n3 : Int), .int .u8 (n4 : Int)]] w fun e w' => e = .returned (.agg #[.bool false, .bool false, .bool false, .bool false, .bool false]) ∧ MAt w' b c (g + 1) v ∧ Turn b w w' := by
  have HS : Hid (Sb w _ b (w.heap.size + 1) w.heap.size (w.heap.size + 1 + 1) c g v N) := hN ▸ sb_new h h0 h1 h2 h3 h4
  have HC : Hid (decide (c < 16) = true) := (decide_eq_true hc : decide (c < 16) = true)
  have HG : Hid (g ≤ 3) := h.ok.2.1
  have HV : Hid (v < 32) := h.ok.2.2
  have hg' : (g : Int) < 3 := by omega
  have HG3 : Hid (g < 3) := hg
  clear h hc hg
  go_enter Try.func16, Try.ntmps16
  go_wp2_with (go_at_call 20; fail)
  generalize ((w.alloc (.cells #[.pointer (some ⟨b, 0, none⟩)] 23)).alloc (.cells #[.int .u8 (n0 : Int), .int .u8 (n1 : Int), .int .u8 (n2 : Int), .int .u8 (n3 : Int), .int .u8 (n4 : Int)] 29)).alloc (.cells #[.bool false, .bool false, .bool false, .bool false, .bool false] 25) = w1 at *
  generalize w.heap.size + 1 + 1 = r at *
  generalize w.heap.size + 1 = n at *
  obtain ⟨m, hm⟩ : ∃ m, w.heap.size = m := ⟨_, rfl⟩
  rw [hm] at HS ⊢
  have HM : Hid (w.heap.size = m) := hm
  clear hN hm h0 h1 h2 h3 h4
  refine (Busy b c g v _ HS.out.p).mono ?_
  rintro e w2 ⟨rfl, rfl⟩
  rw [HC.out]
  have br := HS.out.br
  have rb := Ne.symm br
  have p1 := HS.out.p.c1
  have f1 := HS.out.p.fz 1
  have km := HS.out.k.mp
  have r0 := HS.out.rs.c 0 (by decide)
  have r1 := HS.out.rs.c 1 (by decide)
  have r2 := HS.out.rs.c 2 (by decide)
  have r3 := HS.out.rs.c 3 (by decide)
  have r4 := HS.out.rs.c 4 (by decide)
  have z0 := HS.out.rs.fz 0
  have z1 := HS.out.rs.fz 1
  have z2 := HS.out.rs.fz 2
  have z3 := HS.out.rs.fz 3
  have z4 := HS.out.rs.fz 4
  have HWB : Hid (BAt ((((((w2.setCell ⟨b, 1, none⟩ (.int .i64 ((g : Int) + 1))).setCell ⟨r, 0, none⟩ (.bool false)).setCell ⟨r, 1, none⟩ (.bool false)).setCell ⟨r, 2, none⟩ (.bool false)).setCell ⟨r, 3, none⟩ (.bool false)).setCell ⟨r, 4, none⟩ (.bool false)) r (fun _ => false)) := p5_at (HS.out.rs.other b 1 _ rb) (fun _ => false)
  have HWM : Hid (MAt ((((((w2.setCell ⟨b, 1, none⟩ (.int .i64 ((g : Int) + 1))).setCell ⟨r, 0, none⟩ (.bool false)).setCell ⟨r, 1, none⟩ (.bool false)).setCell ⟨r, 2, none⟩ (.bool false)).setCell ⟨r, 3, none⟩ (.bool false)).setCell ⟨r, 4, none⟩ (.bool false)) b c (g + 1) v ∧ Turn b w ((((((w2.setCell ⟨b, 1, none⟩ (.int .i64 ((g : Int) + 1))).setCell ⟨r, 0, none⟩ (.bool false)).setCell ⟨r, 1, none⟩ (.bool false)).setCell ⟨r, 2, none⟩ (.bool false)).setCell ⟨r, 3, none⟩ (.bool false)).setCell ⟨r, 4, none⟩ (.bool false))) := (⟨p5_m (by have := HS.out.p.put1 (g + 1) (by have := HG3.out; omega); simpa using this) br _ _ _ _ _, p5_t ((Turn.of_below HS.out.bl).set 1 _) HS.out.far.2.2.2 _ _ _ _ _⟩ : MAt ((((((w2.setCell ⟨b, 1, none⟩ (.int .i64 ((g : Int) + 1))).setCell ⟨r, 0, none⟩ (.bool false)).setCell ⟨r, 1, none⟩ (.bool false)).setCell ⟨r, 2, none⟩ (.bool false)).setCell ⟨r, 3, none⟩ (.bool false)).setCell ⟨r, 4, none⟩ (.bool false)) b c (g + 1) v ∧ Turn b w ((((((w2.setCell ⟨b, 1, none⟩ (.int .i64 ((g : Int) + 1))).setCell ⟨r, 0, none⟩ (.bool false)).setCell ⟨r, 1, none⟩ (.bool false)).setCell ⟨r, 2, none⟩ (.bool false)).setCell ⟨r, 3, none⟩ (.bool false)).setCell ⟨r, 4, none⟩ (.bool false)))
  go_wp2
  generalize ((((((w2.setCell ⟨b, 1, none⟩ (.int .i64 ((g : Int) + 1))).setCell ⟨r, 0, none⟩ (.bool false)).setCell ⟨r, 1, none⟩ (.bool false)).setCell ⟨r, 2, none⟩ (.bool false)).setCell ⟨r, 3, none⟩ (.bool false)).setCell ⟨r, 4, none⟩ (.bool false)) = wf at *
  have q0 := HWB.out.c 0 (by decide)
  have q1 := HWB.out.c 1 (by decide)
  have q2 := HWB.out.c 2 (by decide)
  have q3 := HWB.out.c 3 (by decide)
  have q4 := HWB.out.c 4 (by decide)
  try simp only [Exit.inBlock, Exit.then]
  refine bodyPost_ret (v := .agg #[.bool false, .bool false, .bool false, .bool false, .bool false]) (by simp [results, Try.results16, q0, q1, q2, q3, q4, go_sem]) rfl ⟨rfl, HWM.out⟩

set_option maxRecDepth 100000 in
set_option maxHeartbeats 4000000 in
theorem Step_not (b c g v n0 n1 n2 n3 n4 : Nat) (N : Nat → Nat) (clock : Int) (w : World) (hN : five n0 n1 n2 n3 n4 = N) (hc : c < 16) (hg : ¬ g < 3) (hk : Int.tmod clock 4 ≠ 0) (h0 : n0 < 256) (h1 : n1 < 256) (h2 : n2 < 256) (h3 : n3 < 256) (h4 : n4 < 256) (h : MAt w b c g v) : Calls Try.prog 16 #[.pointer (some ⟨b, 0, none⟩), .int .i64 clock, .agg #[.int .u8 (n0 : Int), .int .u8 (n1 : Int), .int .u8 (n2 : Int), .int .u8 (n3 : Int), .int .u8 (n4 : Int)]] w fun e w' => e = .returned (.agg #[.bool false, .bool false, .bool false, .bool false, .bool false]) ∧ MAt w' b c g v ∧ Turn b w w' := by
  have HS : Hid (Sb w _ b (w.heap.size + 1) w.heap.size (w.heap.size + 1 + 1) c g v N) := hN ▸ sb_new h h0 h1 h2 h3 h4
  have HC : Hid (decide (c < 16) = true) := (decide_eq_true hc : decide (c < 16) = true)
  have HG : Hid (g ≤ 3) := h.ok.2.1
  have HV : Hid (v < 32) := h.ok.2.2
  have hg' : ¬ (g : Int) < 3 := by omega
  have hk' : (Int.tmod clock 4 != 0) = true := by simpa using hk
  clear h hc hg hk
  go_enter Try.func16, Try.ntmps16
  go_wp2_with (go_at_call 20; fail)
  generalize ((w.alloc (.cells #[.pointer (some ⟨b, 0, none⟩)] 23)).alloc (.cells #[.int .u8 (n0 : Int), .int .u8 (n1 : Int), .int .u8 (n2 : Int), .int .u8 (n3 : Int), .int .u8 (n4 : Int)] 29)).alloc (.cells #[.bool false, .bool false, .bool false, .bool false, .bool false] 25) = w1 at *
  generalize w.heap.size + 1 + 1 = r at *
  generalize w.heap.size + 1 = n at *
  obtain ⟨m, hm⟩ : ∃ m, w.heap.size = m := ⟨_, rfl⟩
  rw [hm] at HS ⊢
  have HM : Hid (w.heap.size = m) := hm
  clear hN hm h0 h1 h2 h3 h4
  refine (Busy b c g v _ HS.out.p).mono ?_
  rintro e w2 ⟨rfl, rfl⟩
  rw [HC.out]
  have br := HS.out.br
  have rb := Ne.symm br
  have p1 := HS.out.p.c1
  have f1 := HS.out.p.fz 1
  have km := HS.out.k.mp
  have r0 := HS.out.rs.c 0 (by decide)
  have r1 := HS.out.rs.c 1 (by decide)
  have r2 := HS.out.rs.c 2 (by decide)
  have r3 := HS.out.rs.c 3 (by decide)
  have r4 := HS.out.rs.c 4 (by decide)
  have z0 := HS.out.rs.fz 0
  have z1 := HS.out.rs.fz 1
  have z2 := HS.out.rs.fz 2
  have z3 := HS.out.rs.fz 3
  have z4 := HS.out.rs.fz 4
  have HWB : Hid (BAt (((((w2.setCell ⟨r, 0, none⟩ (.bool false)).setCell ⟨r, 1, none⟩ (.bool false)).setCell ⟨r, 2, none⟩ (.bool false)).setCell ⟨r, 3, none⟩ (.bool false)).setCell ⟨r, 4, none⟩ (.bool false)) r (fun _ => false)) := p5_at HS.out.rs (fun _ => false)
  have HWM : Hid (MAt (((((w2.setCell ⟨r, 0, none⟩ (.bool false)).setCell ⟨r, 1, none⟩ (.bool false)).setCell ⟨r, 2, none⟩ (.bool false)).setCell ⟨r, 3, none⟩ (.bool false)).setCell ⟨r, 4, none⟩ (.bool false)) b c g v ∧ Turn b w (((((w2.setCell ⟨r, 0, none⟩ (.bool false)).setCell ⟨r, 1, none⟩ (.bool false)).setCell ⟨r, 2, none⟩ (.bool false)).setCell ⟨r, 3, none⟩ (.bool false)).setCell ⟨r, 4, none⟩ (.bool false))) := (⟨p5_m HS.out.p br _ _ _ _ _, p5_t (Turn.of_below HS.out.bl) HS.out.far.2.2.2 _ _ _ _ _⟩ : MAt (((((w2.setCell ⟨r, 0, none⟩ (.bool false)).setCell ⟨r, 1, none⟩ (.bool false)).setCell ⟨r, 2, none⟩ (.bool false)).setCell ⟨r, 3, none⟩ (.bool false)).setCell ⟨r, 4, none⟩ (.bool false)) b c g v ∧ Turn b w (((((w2.setCell ⟨r, 0, none⟩ (.bool false)).setCell ⟨r, 1, none⟩ (.bool false)).setCell ⟨r, 2, none⟩ (.bool false)).setCell ⟨r, 3, none⟩ (.bool false)).setCell ⟨r, 4, none⟩ (.bool false)))
  go_wp2
  generalize (((((w2.setCell ⟨r, 0, none⟩ (.bool false)).setCell ⟨r, 1, none⟩ (.bool false)).setCell ⟨r, 2, none⟩ (.bool false)).setCell ⟨r, 3, none⟩ (.bool false)).setCell ⟨r, 4, none⟩ (.bool false)) = wf at *
  have q0 := HWB.out.c 0 (by decide)
  have q1 := HWB.out.c 1 (by decide)
  have q2 := HWB.out.c 2 (by decide)
  have q3 := HWB.out.c 3 (by decide)
  have q4 := HWB.out.c 4 (by decide)
  try simp only [Exit.inBlock, Exit.then]
  refine bodyPost_ret (v := .agg #[.bool false, .bool false, .bool false, .bool false, .bool false]) (by simp [results, Try.results16, q0, q1, q2, q3, q4, go_sem]) rfl ⟨rfl, HWM.out⟩

set_option maxRecDepth 100000 in
set_option maxHeartbeats 4000000 in
theorem Step_last (b c g v n0 n1 n2 n3 n4 : Nat) (N : Nat → Nat) (clock : Int) (w : World) (hN : five n0 n1 n2 n3 n4 = N) (hc : c < 16) (hc2 : c = 15) (hg : ¬ g < 3) (hk : Int.tmod clock 4 = 0) (h0 : n0 < 256) (h1 : n1 < 256) (h2 : n2 < 256) (h3 : n3 < 256) (h4 : n4 < 256) (h : MAt w b c g v) : Calls Try.prog 16 #[.pointer (some ⟨b, 0, none⟩), .int .i64 clock, .agg #[.int .u8 (n0 : Int), .int .u8 (n1 : Int), .int .u8 (n2 : Int), .int .u8 (n3 : Int), .int .u8 (n4 : Int)]] w fun e w' => e = .returned (.agg #[.bool (tl c v N 0), .bool (tl c v N 1), .bool (tl c v N 2), .bool (tl c v N 3), .bool (tl c v N 4)]) ∧ MAt w' b 16 0 0 ∧ Turn b w w' := by
  have HS : Hid (Sb w _ b (w.heap.size + 1) w.heap.size (w.heap.size + 1 + 1) c g v N) := hN ▸ sb_new h h0 h1 h2 h3 h4
  have HC : Hid (decide (c < 16) = true) := (decide_eq_true hc : decide (c < 16) = true)
  have HG : Hid (g ≤ 3) := h.ok.2.1
  have HV : Hid (v < 32) := h.ok.2.2
  have hg' : ¬ (g : Int) < 3 := by omega
  have hk' : (Int.tmod clock 4 != 0) = false := by simp [hk]
  subst hc2
  clear h hc hg hk
  go_enter Try.func16, Try.ntmps16
  go_wp2_with (go_at_call 20; fail)
  generalize ((w.alloc (.cells #[.pointer (some ⟨b, 0, none⟩)] 23)).alloc (.cells #[.int .u8 (n0 : Int), .int .u8 (n1 : Int), .int .u8 (n2 : Int), .int .u8 (n3 : Int), .int .u8 (n4 : Int)] 29)).alloc (.cells #[.bool false, .bool false, .bool false, .bool false, .bool false] 25) = w1 at *
  generalize w.heap.size + 1 + 1 = r at *
  generalize w.heap.size + 1 = n at *
  obtain ⟨m, hm⟩ : ∃ m, w.heap.size = m := ⟨_, rfl⟩
  rw [hm] at HS ⊢
  have HM : Hid (w.heap.size = m) := hm
  clear hN hm h0 h1 h2 h3 h4
  refine (Busy b 15 g v _ HS.out.p).mono ?_
  rintro e w2 ⟨rfl, rfl⟩
  rw [HC.out]
  have br := HS.out.br
  have rb := Ne.symm br
  have p1 := HS.out.p.c1
  have f1 := HS.out.p.fz 1
  have km := HS.out.k.mp
  have hmf : ∀ (fn : Fn) (first cap : Array Value) (w : World), (Instr.makeFunc fn first cap).run Try.prog w = .ok (.func fn first cap) w := fun _ _ _ _ => rfl
  go_wp2_with (go_at_call 26; fail)
  refine (move b n m 15 g v N _ HS.out.p HS.out.k).mono ?_
  rintro e w4 ⟨rfl, hA4, hT4⟩
  have H4 : Hid (MAt w4 b 15 g (vm 15 v N 5)) := hA4
  have HT4 : Hid (Turn b w2 w4) := hT4
  have km4 := (HS.out.k.turn hT4).mp
  have mlt := (HS.out.k.turn hT4).mlt
  have HR4 : Hid (BAt w4 r (fun _ => false)) := HS.out.rs.kept (hT4.block r HS.out.rs.lt rb)
  clear hA4 hT4 km p1 f1
  go_wp2_with (go_at_call 29; fail)
  have HT5 : Hid (BAt (w4.alloc (.cells #[.bool (tl 15 v N 0), .bool (tl 15 v N 1), .bool (tl 15 v N 2), .bool (tl 15 v N 3), .bool (tl 15 v N 4)] 25)) w4.heap.size (tl 15 v N)) := (new_bools w4 _ _ _ _ _).to (fun j hj => by rcases (show j = 0 ∨ j = 1 ∨ j = 2 ∨ j = 3 ∨ j = 4 by omega) with rfl | rfl | rfl | rfl | rfl <;> rfl)
  have HB5 : Hid (Below w4.heap.size w4 (w4.alloc (.cells #[.bool (tl 15 v N 0), .bool (tl 15 v N 1), .bool (tl 15 v N 2), .bool (tl 15 v N 3), .bool (tl 15 v N 4)] 25))) := (Below.refl _ w4).alloc (Nat.le_refl _) _
  have km5 := (World.cell?_of_block (w := w4) (a := ⟨m, 0, none⟩) (HB5.out.block m mlt)).trans km4
  generalize w4.alloc (.cells #[.bool (tl 15 v N 0), .bool (tl 15 v N 1), .bool (tl 15 v N 2), .bool (tl 15 v N 3), .bool (tl 15 v N 4)] 25) = w4a at *
  obtain ⟨t, ht⟩ : ∃ t, w4.heap.size = t := ⟨_, rfl⟩
  rw [ht] at HT5 ⊢
  have HTT : Hid (w4.heap.size = t) := ht
  clear ht km4
  refine (next_last b g _ _ (H4.out.below HB5.out)).mono ?_
  rintro e w5 ⟨rfl, hA5, hT5⟩
  have HBR : Hid (BAt w5 r (fun _ => false)) := (HR4.out.kept (HB5.out.block r HR4.out.lt)).kept (hT5.block r (Nat.lt_of_lt_of_le HR4.out.lt HB5.out.size) rb)
  have HBT : Hid (BAt w5 t (tl 15 v N)) := HT5.out.kept (hT5.block t HT5.out.lt (by have := H4.out.lt; have := HTT.out; omega))
  have HTU : Hid (Turn b w w5) := (((Turn.of_below HS.out.bl).trans HT4.out).trans (Turn.of_below HB5.out)).trans hT5
  have HWB : Hid (BAt (((((w5.setCell ⟨r, 0, none⟩ (.bool (tl 15 v N 0))).setCell ⟨r, 1, none⟩ (.bool (tl 15 v N 1))).setCell ⟨r, 2, none⟩ (.bool (tl 15 v N 2))).setCell ⟨r, 3, none⟩ (.bool (tl 15 v N 3))).setCell ⟨r, 4, none⟩ (.bool (tl 15 v N 4))) r (tl 15 v N)) := p5_at HBR.out (tl 15 v N)
  have HWM : Hid (MAt (((((w5.setCell ⟨r, 0, none⟩ (.bool (tl 15 v N 0))).setCell ⟨r, 1, none⟩ (.bool (tl 15 v N 1))).setCell ⟨r, 2, none⟩ (.bool (tl 15 v N 2))).setCell ⟨r, 3, none⟩ (.bool (tl 15 v N 3))).setCell ⟨r, 4, none⟩ (.bool (tl 15 v N 4))) b 16 0 0 ∧ Turn b w (((((w5.setCell ⟨r, 0, none⟩ (.bool (tl 15 v N 0))).setCell ⟨r, 1, none⟩ (.bool (tl 15 v N 1))).setCell ⟨r, 2, none⟩ (.bool (tl 15 v N 2))).setCell ⟨r, 3, none⟩ (.bool (tl 15 v N 3))).setCell ⟨r, 4, none⟩ (.bool (tl 15 v N 4)))) := (⟨p5_m hA5 br _ _ _ _ _, p5_t HTU.out HS.out.far.2.2.2 _ _ _ _ _⟩ : MAt (((((w5.setCell ⟨r, 0, none⟩ (.bool (tl 15 v N 0))).setCell ⟨r, 1, none⟩ (.bool (tl 15 v N 1))).setCell ⟨r, 2, none⟩ (.bool (tl 15 v N 2))).setCell ⟨r, 3, none⟩ (.bool (tl 15 v N 3))).setCell ⟨r, 4, none⟩ (.bool (tl 15 v N 4))) b 16 0 0 ∧ Turn b w (((((w5.setCell ⟨r, 0, none⟩ (.bool (tl 15 v N 0))).setCell ⟨r, 1, none⟩ (.bool (tl 15 v N 1))).setCell ⟨r, 2, none⟩ (.bool (tl 15 v N 2))).setCell ⟨r, 3, none⟩ (.bool (tl 15 v N 3))).setCell ⟨r, 4, none⟩ (.bool (tl 15 v N 4))))
  have t0 := HBT.out.c 0 (by decide)
  have t1 := HBT.out.c 1 (by decide)
  have t2 := HBT.out.c 2 (by decide)
  have t3 := HBT.out.c 3 (by decide)
  have t4 := HBT.out.c 4 (by decide)
  clear hA5 hT5 km5 mlt
  have r0 := HBR.out.c 0 (by decide)
  have r1 := HBR.out.c 1 (by decide)
  have r2 := HBR.out.c 2 (by decide)
  have r3 := HBR.out.c 3 (by decide)
  have r4 := HBR.out.c 4 (by decide)
  have z0 := HBR.out.fz 0
  have z1 := HBR.out.fz 1
  have z2 := HBR.out.fz 2
  have z3 := HBR.out.fz 3
  have z4 := HBR.out.fz 4
  go_wp2
  generalize (((((w5.setCell ⟨r, 0, none⟩ (.bool (tl 15 v N 0))).setCell ⟨r, 1, none⟩ (.bool (tl 15 v N 1))).setCell ⟨r, 2, none⟩ (.bool (tl 15 v N 2))).setCell ⟨r, 3, none⟩ (.bool (tl 15 v N 3))).setCell ⟨r, 4, none⟩ (.bool (tl 15 v N 4))) = wf at *
  have q0 := HWB.out.c 0 (by decide)
  have q1 := HWB.out.c 1 (by decide)
  have q2 := HWB.out.c 2 (by decide)
  have q3 := HWB.out.c 3 (by decide)
  have q4 := HWB.out.c 4 (by decide)
  try simp only [Exit.inBlock, Exit.then]
  refine bodyPost_ret (v := .agg #[.bool (tl 15 v N 0), .bool (tl 15 v N 1), .bool (tl 15 v N 2), .bool (tl 15 v N 3), .bool (tl 15 v N 4)]) (by simp [results, Try.results16, q0, q1, q2, q3, q4, go_sem]) rfl ⟨rfl, HWM.out⟩

set_option maxRecDepth 100000 in
set_option maxHeartbeats 4000000 in
theorem Step_more (b c g v n0 n1 n2 n3 n4 : Nat) (N : Nat → Nat) (clock : Int) (w : World) (hN : five n0 n1 n2 n3 n4 = N) (hc : c < 16) (hc2 : c < 15) (hg : ¬ g < 3) (hk : Int.tmod clock 4 = 0) (h0 : n0 < 256) (h1 : n1 < 256) (h2 : n2 < 256) (h3 : n3 < 256) (h4 : n4 < 256) (h : MAt w b c g v) : Calls Try.prog 16 #[.pointer (some ⟨b, 0, none⟩), .int .i64 clock, .agg #[.int .u8 (n0 : Int), .int .u8 (n1 : Int), .int .u8 (n2 : Int), .int .u8 (n3 : Int), .int .u8 (n4 : Int)]] w fun e w' => e = .returned (.agg #[.bool (tl c v N 0), .bool (tl c v N 1), .bool (tl c v N 2), .bool (tl c v N 3), .bool (tl c v N 4)]) ∧ MAt w' b (c + 1) g (vm c v N 5) ∧ Turn b w w' := by
  have HS : Hid (Sb w _ b (w.heap.size + 1) w.heap.size (w.heap.size + 1 + 1) c g v N) := hN ▸ sb_new h h0 h1 h2 h3 h4
  have HC : Hid (decide (c < 16) = true) := (decide_eq_true hc : decide (c < 16) = true)
  have HG : Hid (g ≤ 3) := h.ok.2.1
  have HV : Hid (v < 32) := h.ok.2.2
  have hg' : ¬ (g : Int) < 3 := by omega
  have hk' : (Int.tmod clock 4 != 0) = false := by simp [hk]
  have HC2 : Hid (c < 15) := hc2
  clear h hc hg hk hc2
  go_enter Try.func16, Try.ntmps16
  go_wp2_with (go_at_call 20; fail)
  generalize ((w.alloc (.cells #[.pointer (some ⟨b, 0, none⟩)] 23)).alloc (.cells #[.int .u8 (n0 : Int), .int .u8 (n1 : Int), .int .u8 (n2 : Int), .int .u8 (n3 : Int), .int .u8 (n4 : Int)] 29)).alloc (.cells #[.bool false, .bool false, .bool false, .bool false, .bool false] 25) = w1 at *
  generalize w.heap.size + 1 + 1 = r at *
  generalize w.heap.size + 1 = n at *
  obtain ⟨m, hm⟩ : ∃ m, w.heap.size = m := ⟨_, rfl⟩
  rw [hm] at HS ⊢
  have HM : Hid (w.heap.size = m) := hm
  clear hN hm h0 h1 h2 h3 h4
  refine (Busy b c g v _ HS.out.p).mono ?_
  rintro e w2 ⟨rfl, rfl⟩
  rw [HC.out]
  have br := HS.out.br
  have rb := Ne.symm br
  have p1 := HS.out.p.c1
  have f1 := HS.out.p.fz 1
  have km := HS.out.k.mp
  have hmf : ∀ (fn : Fn) (first cap : Array Value) (w : World), (Instr.makeFunc fn first cap).run Try.prog w = .ok (.func fn first cap) w := fun _ _ _ _ => rfl
  go_wp2_with (go_at_call 26; fail)
  refine (move b n m c g v N _ HS.out.p HS.out.k).mono ?_
  rintro e w4 ⟨rfl, hA4, hT4⟩
  have H4 : Hid (MAt w4 b c g (vm c v N 5)) := hA4
  have HT4 : Hid (Turn b w2 w4) := hT4
  have km4 := (HS.out.k.turn hT4).mp
  have mlt := (HS.out.k.turn hT4).mlt
  have HR4 : Hid (BAt w4 r (fun _ => false)) := HS.out.rs.kept (hT4.block r HS.out.rs.lt rb)
  clear hA4 hT4 km p1 f1
  go_wp2_with (go_at_call 29; fail)
  have HT5 : Hid (BAt (w4.alloc (.cells #[.bool (tl c v N 0), .bool (tl c v N 1), .bool (tl c v N 2), .bool (tl c v N 3), .bool (tl c v N 4)] 25)) w4.heap.size (tl c v N)) := (new_bools w4 _ _ _ _ _).to (fun j hj => by rcases (show j = 0 ∨ j = 1 ∨ j = 2 ∨ j = 3 ∨ j = 4 by omega) with rfl | rfl | rfl | rfl | rfl <;> rfl)
  have HB5 : Hid (Below w4.heap.size w4 (w4.alloc (.cells #[.bool (tl c v N 0), .bool (tl c v N 1), .bool (tl c v N 2), .bool (tl c v N 3), .bool (tl c v N 4)] 25))) := (Below.refl _ w4).alloc (Nat.le_refl _) _
  have km5 := (World.cell?_of_block (w := w4) (a := ⟨m, 0, none⟩) (HB5.out.block m mlt)).trans km4
  generalize w4.alloc (.cells #[.bool (tl c v N 0), .bool (tl c v N 1), .bool (tl c v N 2), .bool (tl c v N 3), .bool (tl c v N 4)] 25) = w4a at *
  obtain ⟨t, ht⟩ : ∃ t, w4.heap.size = t := ⟨_, rfl⟩
  rw [ht] at HT5 ⊢
  have HTT : Hid (w4.heap.size = t) := ht
  clear ht km4
  refine (next_more b c g _ _ HC2.out (H4.out.below HB5.out)).mono ?_
  rintro e w5 ⟨rfl, hA5, hT5⟩
  have HBR : Hid (BAt w5 r (fun _ => false)) := (HR4.out.kept (HB5.out.block r HR4.out.lt)).kept (hT5.block r (Nat.lt_of_lt_of_le HR4.out.lt HB5.out.size) rb)
  have HBT : Hid (BAt w5 t (tl c v N)) := HT5.out.kept (hT5.block t HT5.out.lt (by have := H4.out.lt; have := HTT.out; omega))
  have HTU : Hid (Turn b w w5) := (((Turn.of_below HS.out.bl).trans HT4.out).trans (Turn.of_below HB5.out)).trans hT5
  have HWB : Hid (BAt (((((w5.setCell ⟨r, 0, none⟩ (.bool (tl c v N 0))).setCell ⟨r, 1, none⟩ (.bool (tl c v N 1))).setCell ⟨r, 2, none⟩ (.bool (tl c v N 2))).setCell ⟨r, 3, none⟩ (.bool (tl c v N 3))).setCell ⟨r, 4, none⟩ (.bool (tl c v N 4))) r (tl c v N)) := p5_at HBR.out (tl c v N)
  have HWM : Hid (MAt (((((w5.setCell ⟨r, 0, none⟩ (.bool (tl c v N 0))).setCell ⟨r, 1, none⟩ (.bool (tl c v N 1))).setCell ⟨r, 2, none⟩ (.bool (tl c v N 2))).setCell ⟨r, 3, none⟩ (.bool (tl c v N 3))).setCell ⟨r, 4, none⟩ (.bool (tl c v N 4))) b (c + 1) g (vm c v N 5) ∧ Turn b w (((((w5.setCell ⟨r, 0, none⟩ (.bool (tl c v N 0))).setCell ⟨r, 1, none⟩ (.bool (tl c v N 1))).setCell ⟨r, 2, none⟩ (.bool (tl c v N 2))).setCell ⟨r, 3, none⟩ (.bool (tl c v N 3))).setCell ⟨r, 4, none⟩ (.bool (tl c v N 4)))) := (⟨p5_m hA5 br _ _ _ _ _, p5_t HTU.out HS.out.far.2.2.2 _ _ _ _ _⟩ : MAt (((((w5.setCell ⟨r, 0, none⟩ (.bool (tl c v N 0))).setCell ⟨r, 1, none⟩ (.bool (tl c v N 1))).setCell ⟨r, 2, none⟩ (.bool (tl c v N 2))).setCell ⟨r, 3, none⟩ (.bool (tl c v N 3))).setCell ⟨r, 4, none⟩ (.bool (tl c v N 4))) b (c + 1) g (vm c v N 5) ∧ Turn b w (((((w5.setCell ⟨r, 0, none⟩ (.bool (tl c v N 0))).setCell ⟨r, 1, none⟩ (.bool (tl c v N 1))).setCell ⟨r, 2, none⟩ (.bool (tl c v N 2))).setCell ⟨r, 3, none⟩ (.bool (tl c v N 3))).setCell ⟨r, 4, none⟩ (.bool (tl c v N 4))))
  have t0 := HBT.out.c 0 (by decide)
  have t1 := HBT.out.c 1 (by decide)
  have t2 := HBT.out.c 2 (by decide)
  have t3 := HBT.out.c 3 (by decide)
  have t4 := HBT.out.c 4 (by decide)
  clear hA5 hT5 km5 mlt
  have r0 := HBR.out.c 0 (by decide)
  have r1 := HBR.out.c 1 (by decide)
  have r2 := HBR.out.c 2 (by decide)
  have r3 := HBR.out.c 3 (by decide)
  have r4 := HBR.out.c 4 (by decide)
  have z0 := HBR.out.fz 0
  have z1 := HBR.out.fz 1
  have z2 := HBR.out.fz 2
  have z3 := HBR.out.fz 3
  have z4 := HBR.out.fz 4
  go_wp2
  generalize (((((w5.setCell ⟨r, 0, none⟩ (.bool (tl c v N 0))).setCell ⟨r, 1, none⟩ (.bool (tl c v N 1))).setCell ⟨r, 2, none⟩ (.bool (tl c v N 2))).setCell ⟨r, 3, none⟩ (.bool (tl c v N 3))).setCell ⟨r, 4, none⟩ (.bool (tl c v N 4))) = wf at *
  have q0 := HWB.out.c 0 (by decide)
  have q1 := HWB.out.c 1 (by decide)
  have q2 := HWB.out.c 2 (by decide)
  have q3 := HWB.out.c 3 (by decide)
  have q4 := HWB.out.c 4 (by decide)
  try simp only [Exit.inBlock, Exit.then]
  refine bodyPost_ret (v := .agg #[.bool (tl c v N 0), .bool (tl c v N 1), .bool (tl c v N 2), .bool (tl c v N 3), .bool (tl c v N 4)]) (by simp [results, Try.results16, q0, q1, q2, q3, q4, go_sem]) rfl ⟨rfl, HWM.out⟩

end Go.Proofs.Ytkondnlilkpdoaa.Mo
