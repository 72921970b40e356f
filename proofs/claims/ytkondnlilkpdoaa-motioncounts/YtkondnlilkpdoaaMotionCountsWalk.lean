/- MotionCounts, walked: whatever comes in, true comes out. -/
import Derived.Test.YtkondnlilkpdoaaMot7
import Derived.Test.YtkondnlilkpdoaaAwakeM
import Derived.Test.YtkondnlilkpdoaaFrame
set_option linter.unusedVariables false
namespace Go.Proofs.Ytkondnlilkpdoaa.motionCounts
open Go.RowKit Mo

/-- How many multiples of 4 went by behind the first three of i clocks. -/
def q (s i : Nat) : Nat := (s + max i 3 + 3) / 4 - (s + 6) / 4
/-- What is so behind i clocks. -/
structure Inv (s : Nat) (N : Nat → Nat) (i c g v : Nat) (T : Nat → Nat) : Prop where
  ec : c = min 16 (q s i)
  gv : c < 16 → g = min i 3 ∧ ∀ k, k < 5 → v.testBit k = decide (c ≤ mvN (N k))
  v5 : v < 32
  t : ∀ k, k < 5 → T k = min c (mvN (N k))
theorem inv0 (s : Nat) (N : Nat → Nat) : Inv s N 0 0 0 31 (fun _ => 0) :=
  ⟨by unfold q; omega, fun _ => ⟨by omega, fun k hk => by rcases (show k = 0 ∨ k = 1 ∨ k = 2 ∨ k = 3 ∨ k = 4 by omega) with rfl | rfl | rfl | rfl | rfl <;> rfl⟩, by decide, fun k _ => by omega⟩
theorem clock_mod (s i : Nat) : (((s : Int) + (i : Int)) % 228).tmod 4 = (((s + i) % 4 : Nat) : Int) := by
  rw [Int.tmod_eq_emod_of_nonneg (by omega)]; omega
theorem inv1 {s : Nat} {N : Nat → Nat} {i c g v : Nat} {T : Nat → Nat} (h : Inv s N i c g v T) :
    Inv s N (i + 1) (sC c g (((s : Int) + (i : Int)) % 228)) (sG c g (((s : Int) + (i : Int)) % 228)) (sV c g v (((s : Int) + (i : Int)) % 228) N) (fun k => if sT c g v (((s : Int) + (i : Int)) % 228) N k then T k + 1 else T k) := by
  obtain ⟨hc, hgv, hv, ht⟩ := h
  have hcm := clock_mod s i
  unfold sC sG sV sT
  rw [hcm]
  have lm : ∀ k, mvN (N k) < 16 := fun k => mvN_lt _
  by_cases h16 : c = 16
  · simp only [if_pos h16]
    have hq : 16 ≤ q s i := by omega
    refine ⟨?_, fun hh => absurd hh (by omega), hv, fun k hk => ?_⟩
    · unfold q at hq ⊢; omega
    · simp only [Bool.false_eq_true, if_false]; rw [ht k hk, h16]
  simp only [if_neg h16]
  have hlt : c < 16 := by omega
  obtain ⟨hg, hb⟩ := hgv hlt
  by_cases h3 : g < 3
  · simp only [if_pos h3]
    have hi : i < 3 := by omega
    refine ⟨?_, fun _ => ⟨by omega, hb⟩, hv, fun k hk => ?_⟩
    · rw [hc]; unfold q; omega
    · simp only [Bool.false_eq_true, if_false]; exact ht k hk
  simp only [if_neg h3]
  have hi : 3 ≤ i := by omega
  by_cases h4 : (s + i) % 4 = 0
  · have e4 : ((((s + i) % 4 : Nat) : Int) ≠ 0) = False := by simp; omega
    simp only [e4, if_false]
    have hq : c + 1 = min 16 (q s (i + 1)) := by unfold q at hc ⊢; omega
    have hb5 : ∀ k, k < 5 → tl c v N k = decide (c + 1 ≤ mvN (N k)) := fun k hk => by
      unfold tl
      rw [hb k hk]
      have := lm k
      by_cases e1 : c ≤ mvN (N k)
      · by_cases e2 : mvN (N k) = c
        · rw [e2]; simp
        · rw [decide_eq_true e1, decide_eq_true (show c + 1 ≤ mvN (N k) by omega)]; simp [e2]
      · rw [decide_eq_false e1, decide_eq_false (show ¬ c + 1 ≤ mvN (N k) by omega)]; rfl
    refine ⟨hq, fun hh => ?_, ?_, fun k hk => ?_⟩
    · rw [if_neg (by omega), if_neg (by omega)]
      refine ⟨by omega, fun k hk => ?_⟩
      rw [vm_bit hv 5 (by decide) k hk, if_pos hk]
      exact hb5 k hk
    · split
      · decide
      · exact vm_lt hv 5 (by decide)
    · rw [hb5 k hk, ht k hk]
      by_cases e : c + 1 ≤ mvN (N k)
      · rw [decide_eq_true e, if_pos rfl]; omega
      · rw [decide_eq_false e, if_neg (by simp)]; omega
  · have e4 : ((((s + i) % 4 : Nat) : Int) ≠ 0) = True := by simp; omega
    simp only [e4, if_true]
    refine ⟨?_, fun _ => ⟨by omega, hb⟩, hv, fun k hk => ?_⟩
    · unfold q at hc ⊢; omega
    · simp only [Bool.false_eq_true, if_false]; exact ht k hk
theorem inv_end {s : Nat} {N : Nat → Nat} {c g v : Nat} {T : Nat → Nat} (h : Inv s N 80 c g v T) : c = 16 ∧ ∀ k, k < 5 → T k = mvN (N k) := by
  have hc : c = 16 := by have := h.ec; unfold q at this; omega
  exact ⟨hc, fun k hk => by rw [h.t k hk, hc]; have := mvN_lt (N k); omega⟩

/-- Five counts lie at block t. -/
structure TAt (w : World) (t : Nat) (T : Nat → Nat) : Prop where
  c : ∀ j, j < 5 → w.cell? ⟨t, j, none⟩ = some (.int .i64 (T j : Int))
  fz : ∀ o, w.frozen? ⟨t, o, none⟩ = false
theorem TAt.lt {w : World} {t : Nat} {T : Nat → Nat} (h : TAt w t T) : t < w.heap.size := lt_of_cell (h.c 0 (by decide))
theorem TAt.kept {w w' : World} {t : Nat} {T : Nat → Nat} (h : TAt w t T) (hb : w'.heap[t]? = w.heap[t]?) : TAt w' t T :=
  ⟨fun j hj => (World.cell?_of_block (w := w) hb).trans (h.c j hj), fun o => (World.frozen?_of_block (w := w) hb).trans (h.fz o)⟩
theorem TAt.to {w : World} {t : Nat} {T T' : Nat → Nat} (h : TAt w t T) (e : ∀ j, j < 5 → T j = T' j) : TAt w t T' := ⟨fun j hj => by rw [← e j hj]; exact h.c j hj, h.fz⟩
theorem TAt.put {w : World} {t : Nat} {T : Nat → Nat} (h : TAt w t T) (k : Nat) (hk : k < 5) (x : Nat) : TAt (w.setCell ⟨t, k, none⟩ (.int .i64 (x : Int))) t (fun j => if j = k then x else T j) :=
  ⟨fun j hj => by
    by_cases e : j = k
    · subst e; rw [if_pos rfl]; exact World.cell?_setCell_same' _ _ _ (by rw [h.c j hj]; rfl)
    · rw [if_neg e]; exact (World.cell?_setCell_other _ _ _ _ (by simp)).trans (h.c j hj), fun o => by rw [World.frozen?_setCell]; exact h.fz o⟩
theorem new_ints (W : World) : TAt (W.alloc (.cells #[.int .i64 0, .int .i64 0, .int .i64 0, .int .i64 0, .int .i64 0] 47)) W.heap.size (fun _ => 0) := by
  have hh := heap_alloc_new W (.cells #[.int .i64 0, .int .i64 0, .int .i64 0, .int .i64 0, .int .i64 0] 47)
  refine ⟨fun j hj => ?_, fun _ => frozen_of_row _ _ _ _ _ hh⟩
  rcases (show j = 0 ∨ j = 1 ∨ j = 2 ∨ j = 3 ∨ j = 4 by omega) with rfl | rfl | rfl | rfl | rfl <;> exact cell_of_row _ _ _ _ _ _ hh
theorem new_nibs (w : World) {n0 n1 n2 n3 n4 : Nat} (h0 : n0 < 256) (h1 : n1 < 256) (h2 : n2 < 256) (h3 : n3 < 256) (h4 : n4 < 256) : NAt (w.alloc (.cells #[.int .u8 (n0 : Int), .int .u8 (n1 : Int), .int .u8 (n2 : Int), .int .u8 (n3 : Int), .int .u8 (n4 : Int)] 29)) w.heap.size (five n0 n1 n2 n3 n4) := by
  have hh := heap_alloc_new w (.cells #[.int .u8 (n0 : Int), .int .u8 (n1 : Int), .int .u8 (n2 : Int), .int .u8 (n3 : Int), .int .u8 (n4 : Int)] 29)
  refine ⟨fun k hk => ?_, five_lt h0 h1 h2 h3 h4⟩
  rcases (show k = 0 ∨ k = 1 ∨ k = 2 ∨ k = 3 ∨ k = 4 by omega) with rfl | rfl | rfl | rfl | rfl <;> exact cell_of_row _ _ _ _ _ _ hh

/-- The motion, the nibbles' box, the counts; nothing old turned. -/
structure Cn (W : World) (b n t c g v : Nat) (N T : Nat → Nat) (w : World) : Prop where
  p : MAt w b c g v
  ns : NAt w n N
  ts : TAt w t T
  old : Below W.heap.size W w
  far : W.heap.size ≤ b ∧ W.heap.size ≤ t ∧ b ≠ t ∧ b ≠ n ∧ t ≠ n
section
variable {W w w' : World} {b n t c g v : Nat} {N T : Nat → Nat}
theorem Cn.nlt (h : Cn W b n t c g v N T w) : n < w.heap.size := lt_of_cell (h.ns.c 0 (by decide))
theorem Cn.turn {c' g' v' : Nat} (h : Cn W b n t c g v N T w) (ht : Turn b w w') (hp : MAt w' b c' g' v') : Cn W b n t c' g' v' N T w' :=
  ⟨hp, ⟨fun k hk => (World.cell?_of_block (w := w) (ht.block n h.nlt (Ne.symm h.far.2.2.2.1))).trans (h.ns.c k hk), h.ns.l⟩, h.ts.kept (ht.block t h.ts.lt (Ne.symm h.far.2.2.1)), m_back h.far.1 h.old ht, h.far⟩
theorem Cn.below (h : Cn W b n t c g v N T w) (hb : Below w.heap.size w w') : Cn W b n t c g v N T w' :=
  ⟨h.p.below hb, ⟨fun k hk => (World.cell?_of_block (w := w) (hb.block n h.nlt)).trans (h.ns.c k hk), h.ns.l⟩, h.ts.kept (hb.block t h.ts.lt), b_keep h.old hb, h.far⟩
theorem Cn.draws (h : Cn W b n t c g v N T w) (q : Nat) : Cn W b n t c g v N T (w.drewN q) :=
  ⟨h.p.draws q, ⟨h.ns.c, h.ns.l⟩, ⟨h.ts.c, h.ts.fz⟩, below_drewN h.old q, h.far⟩
theorem Cn.put (h : Cn W b n t c g v N T w) (k : Nat) (hk : k < 5) (x : Nat) : Cn W b n t c g v N (fun j => if j = k then x else T j) (w.setCell ⟨t, k, none⟩ (.int .i64 (x : Int))) :=
  ⟨h.p.other t k _ h.far.2.2.1, ⟨fun j hj => (World.cell?_of_block (w := w) (Below.heap_setCell _ _ _ _ (Ne.symm h.far.2.2.2.2))).trans (h.ns.c j hj), h.ns.l⟩, h.ts.put k hk x,
    h.old.trans ⟨rfl, rfl, rfl, by simp [World.setCell], fun j hj => Below.heap_setCell _ _ _ _ (by show j ≠ t; have := h.far.2.1; omega)⟩, h.far⟩
theorem Cn.to (h : Cn W b n t c g v N T w) {T' : Nat → Nat} (e : ∀ j, j < 5 → T j = T' j) : Cn W b n t c g v N T' w := ⟨h.p, h.ns, h.ts.to e, h.old, h.far⟩
end

/-- What was counted, when the first k things were asked. -/
def tmid (B : Nat → Bool) (T : Nat → Nat) (k j : Nat) : Nat := if j < k then (if B j then T j + 1 else T j) else T j
theorem tmid_0 (B : Nat → Bool) (T : Nat → Nat) (j : Nat) : T j = tmid B T 0 j := by unfold tmid; rw [if_neg (by omega)]
theorem tmid_5 (B : Nat → Bool) (T : Nat → Nat) (j : Nat) (h : j < 5) : tmid B T 5 j = if B j then T j + 1 else T j := by unfold tmid; rw [if_pos h]
theorem tmid_no {B : Nat → Bool} {T : Nat → Nat} {k : Nat} (h : B k = false) (j : Nat) : tmid B T k j = tmid B T (k + 1) j := by
  unfold tmid
  by_cases e : j = k
  · subst e; rw [if_neg (by omega), if_pos (by omega), h]; rfl
  · by_cases l : j < k
    · rw [if_pos l, if_pos (show j < k + 1 by omega)]
    · rw [if_neg l, if_neg (show ¬ j < k + 1 by omega)]
theorem tmid_yes {B : Nat → Bool} {T : Nat → Nat} {k : Nat} (h : B k = true) (j : Nat) : (if j = k then tmid B T k k + 1 else tmid B T k j) = tmid B T (k + 1) j := by
  unfold tmid
  by_cases e : j = k
  · subst e; rw [if_pos rfl, if_neg (by omega), if_pos (by omega), h]; rfl
  · rw [if_neg e]
    by_cases l : j < k
    · rw [if_pos l, if_pos (show j < k + 1 by omega)]
    · rw [if_neg l, if_neg (show ¬ j < k + 1 by omega)]
theorem tmid_le {B : Nat → Bool} {T : Nat → Nat} {k j : Nat} (h : T j ≤ 16) : tmid B T k j ≤ 17 := by
  unfold tmid
  split
  · split <;> omega
  · omega

set_option maxRecDepth 100000 in
set_option maxHeartbeats 8000000 in
theorem good (s n0 n1 n2 n3 n4 : Nat) (W : World) (hs : s < 256) (h0 : n0 < 256) (h1 : n1 < 256) (h2 : n2 < 256) (h3 : n3 < 256) (h4 : n4 < 256) :
    Calls Try.prog 5 #[.int .u8 (s : Int), .agg #[.int .u8 (n0 : Int), .int .u8 (n1 : Int), .int .u8 (n2 : Int), .int .u8 (n3 : Int), .int .u8 (n4 : Int)]] W fun e w' => e = .returned (.bool true) ∧ Below W.heap.size W w' := by
  obtain ⟨N, hN⟩ : ∃ N, five n0 n1 n2 n3 n4 = N := ⟨_, rfl⟩
  have HN : Hid (five n0 n1 n2 n3 n4 = N) := hN
  have HL : Hid (n0 < 256 ∧ n1 < 256 ∧ n2 < 256 ∧ n3 < 256 ∧ n4 < 256) := ⟨h0, h1, h2, h3, h4⟩
  have HNN : Hid (NAt (W.alloc (.cells #[.int .u8 (n0 : Int), .int .u8 (n1 : Int), .int .u8 (n2 : Int), .int .u8 (n3 : Int), .int .u8 (n4 : Int)] 29)) W.heap.size N) := hN ▸ new_nibs W h0 h1 h2 h3 h4
  have HBB : Hid (Below W.heap.size W (W.alloc (.cells #[.int .u8 (n0 : Int), .int .u8 (n1 : Int), .int .u8 (n2 : Int), .int .u8 (n3 : Int), .int .u8 (n4 : Int)] 29))) := (Below.refl _ W).alloc (Nat.le_refl _) _
  have HSZ : Hid ((W.alloc (.cells #[.int .u8 (n0 : Int), .int .u8 (n1 : Int), .int .u8 (n2 : Int), .int .u8 (n3 : Int), .int .u8 (n4 : Int)] 29)).heap.size = W.heap.size + 1) := (by simp : (W.alloc (.cells #[.int .u8 (n0 : Int), .int .u8 (n1 : Int), .int .u8 (n2 : Int), .int .u8 (n3 : Int), .int .u8 (n4 : Int)] 29)).heap.size = W.heap.size + 1)
  clear hN h0 h1 h2 h3 h4
  go_enter Try.func5, Try.ntmps5
  go_wp2_with (go_at_call 9; fail)
  generalize W.alloc (.cells #[.int .u8 (n0 : Int), .int .u8 (n1 : Int), .int .u8 (n2 : Int), .int .u8 (n3 : Int), .int .u8 (n4 : Int)] 29) = wn at *
  refine (New wn).mono ?_
  rintro e w1 ⟨b, rfl, hb, hA1, hB1⟩
  have HA1 : Hid (MAt w1 b 16 0 0) := hA1
  have HB1 : Hid (Below wn.heap.size wn w1 ∧ wn.heap.size ≤ b) := ⟨hB1, hb⟩
  clear hA1 hB1 hb
  go_wp2_with (go_at_call 11; fail)
  refine (Strobe b 16 0 0 _ HA1.out).mono ?_
  rintro e w2 ⟨rfl, hA2, hT2⟩
  have hlt := hA2.lt
  have HC : Hid (Cn W b W.heap.size w2.heap.size 0 0 31 N (fun _ => 0) (w2.alloc (.cells #[.int .i64 0, .int .i64 0, .int .i64 0, .int .i64 0, .int .i64 0] 47))) := by
    have hB2 : Below wn.heap.size wn w2 := m_back HB1.out.2 HB1.out.1 hT2
    have hB3 : Below w2.heap.size w2 (w2.alloc (.cells #[.int .i64 0, .int .i64 0, .int .i64 0, .int .i64 0, .int .i64 0] 47)) := (Below.refl _ w2).alloc (Nat.le_refl _) _
    have hsz := HSZ.out
    have hs2 := hB2.size
    have hlt2 := HB1.out.2
    refine ⟨hA2.below hB3, ⟨fun k hk => (World.cell?_of_block (w := w2) (hB3.block W.heap.size (by omega))).trans ((World.cell?_of_block (w := wn) (hB2.block W.heap.size (by omega))).trans (HNN.out.c k hk)), HNN.out.l⟩, new_ints w2, b_keep (b_keep HBB.out hB2) hB3, by omega, by omega, by omega, by omega, by omega⟩
  clear hA2 hT2 HA1 HB1 HNN HBB HSZ hlt
  go_wp2
  generalize w2.alloc (.cells #[.int .i64 0, .int .i64 0, .int .i64 0, .int .i64 0, .int .i64 0] 47) = w3 at *
  obtain ⟨t, ht⟩ : ∃ t, w2.heap.size = t := ⟨_, rfl⟩
  obtain ⟨n, hn⟩ : ∃ n, W.heap.size = n := ⟨_, rfl⟩
  have HT0 : Hid (W.heap.size = n) := hn
  have HC0 : Hid (Cn W b n t 0 0 31 N (fun _ => 0) w3) := (by rw [← ht, ← hn]; exact HC.out)
  rw [ht, hn]
  clear ht hn HC
  go_loopw [7] (fun x wr => ∃ i : Nat, i ≤ 80 ∧ x = .int .i64 (i : Int) ∧ ∃ c g v T, Inv s N i c g v T ∧ Cn W b n t c g v N T wr) (fun x _ => 80 - (intOf x).toNat)
  case atStart => exact ⟨0, by omega, rfl, _, _, _, _, inv0 s N, HC0.out⟩
  case round =>
    obtain ⟨i, hi, rfl, c, g, v, T, hI, hC⟩ := hrel
    have HI : Hid (Inv s N i c g v T) := hI
    have H : Hid (Cn W b n t c g v N T wr) := hC
    clear hI hC HC0
    by_cases hlt : i < 80
    · have x0 := H.out.ns.c 0 (by decide)
      have x1 := H.out.ns.c 1 (by decide)
      have x2 := H.out.ns.c 2 (by decide)
      have x3 := H.out.ns.c 3 (by decide)
      have x4 := H.out.ns.c 4 (by decide)
      rw [← HN.out] at x0 x1 x2 x3 x4
      simp only [five] at x0 x1 x2 x3 x4
      go_wp2_with (go_at_call 16; fail)
      refine (Step b c g v n0 n1 n2 n3 n4 N (((s : Int) + (i : Int)) % 228) _ HN.out HL.out.1 HL.out.2.1 HL.out.2.2.1 HL.out.2.2.2.1 HL.out.2.2.2.2 H.out.p).mono ?_
      rintro e w4 ⟨rfl, hA4, hT4⟩
      have hI1 := inv1 HI.out
      have hC4 := H.out.turn hT4 hA4
      have hc16 : ∀ k, k < 5 → T k ≤ 16 := fun k hk => by rw [HI.out.t k hk]; have := mvN_lt (N k); omega
      have HT16 : Hid (∀ k, k < 5 → T k ≤ 16) := hc16
      generalize sC c g (((s : Int) + (i : Int)) % 228) = c' at *
      generalize sG c g (((s : Int) + (i : Int)) % 228) = g' at *
      generalize sV c g v (((s : Int) + (i : Int)) % 228) N = v' at *
      generalize sT c g v (((s : Int) + (i : Int)) % 228) N = B at *
      have HI1 : Hid (Inv s N (i + 1) c' g' v' (fun k => if B k then T k + 1 else T k)) := hI1
      have HBT : Hid (BAt (w4.alloc (.cells #[.bool (B 0), .bool (B 1), .bool (B 2), .bool (B 3), .bool (B 4)] 25)) w4.heap.size B) := (new_bools w4 _ _ _ _ _).to (fun j hj => by rcases (show j = 0 ∨ j = 1 ∨ j = 2 ∨ j = 3 ∨ j = 4 by omega) with rfl | rfl | rfl | rfl | rfl <;> rfl)
      have HC4 : Hid (Cn W b n t c' g' v' N T (w4.alloc (.cells #[.bool (B 0), .bool (B 1), .bool (B 2), .bool (B 3), .bool (B 4)] 25))) := hC4.below ((Below.refl _ w4).alloc (Nat.le_refl _) _)
      have hne : t ≠ w4.heap.size := by have := hC4.ts.lt; omega
      have HNE : Hid (t ≠ w4.heap.size) := hne
      clear hI1 hC4 hA4 hT4 hc16 hne H HI x0 x1 x2 x3 x4
      go_wp2
      generalize w4.alloc (.cells #[.bool (B 0), .bool (B 1), .bool (B 2), .bool (B 3), .bool (B 4)] 25) = w5 at *
      obtain ⟨m, hm⟩ : ∃ m, w4.heap.size = m := ⟨_, rfl⟩
      rw [hm] at HBT HNE ⊢
      clear hm
      go_loopw [9] (fun x wr => ∃ k : Nat, k ≤ 5 ∧ x = .int .i64 (k : Int) ∧ BAt wr m B ∧ Cn W b n t c' g' v' N (tmid B T k) wr) (fun x _ => 5 - (intOf x).toNat)
      case atStart => exact ⟨0, by omega, rfl, HBT.out, HC4.out.to (fun j _ => tmid_0 B T j)⟩
      case round =>
        obtain ⟨k, hk, rfl, hB, hC⟩ := hrel
        have HB : Hid (BAt wr m B) := hB
        have HC : Hid (Cn W b n t c' g' v' N (tmid B T k) wr) := hC
        clear hB hC HBT HC4
        rcases (show k = 0 ∨ k = 1 ∨ k = 2 ∨ k = 3 ∨ k = 4 ∨ k = 5 by omega) with rfl | rfl | rfl | rfl | rfl | rfl
        · have hb := HB.out.c 0 (by decide)
          cases hBk : B 0
          · rw [hBk] at hb
            have HX : Hid (Cn W b n t c' g' v' N (tmid B T (0 + 1)) wr) := HC.out.to (fun j _ => tmid_no hBk j)
            clear hBk
            go_wp2
            go_roundw
            case rel => exact ⟨0 + 1, by omega, by first | rfl | go_num, HB.out, HX.out⟩
            case measure => simp [intOf]
          · rw [hBk] at hb
            have ht := HC.out.ts.c 0 (by decide)
            have hz := HC.out.ts.fz 0
            have hle : tmid B T 0 0 ≤ 17 := tmid_le (HT16.out 0 (by decide))
            have HX : Hid (Cn W b n t c' g' v' N (tmid B T (0 + 1)) (wr.setCell ⟨t, 0, none⟩ (.int .i64 ((tmid B T 0 0 + 1 : Nat) : Int)))) := (HC.out.put 0 (by decide) _).to (fun j _ => tmid_yes hBk j)
            have HXB : Hid (BAt (wr.setCell ⟨t, 0, none⟩ (.int .i64 ((tmid B T 0 0 + 1 : Nat) : Int))) m B) := HB.out.other t 0 _ (Ne.symm HNE.out)
            generalize tmid B T 0 0 = y at *
            rw [show (((y + 1 : Nat)) : Int) = (y : Int) + 1 from rfl] at HX HXB
            clear hBk
            go_wp2
            go_roundw
            case rel => exact ⟨0 + 1, by omega, by first | rfl | go_num, HXB.out, HX.out⟩
            case measure => simp [intOf]
        · have hb := HB.out.c 1 (by decide)
          cases hBk : B 1
          · rw [hBk] at hb
            have HX : Hid (Cn W b n t c' g' v' N (tmid B T (1 + 1)) wr) := HC.out.to (fun j _ => tmid_no hBk j)
            clear hBk
            go_wp2
            go_roundw
            case rel => exact ⟨1 + 1, by omega, by first | rfl | go_num, HB.out, HX.out⟩
            case measure => simp [intOf]
          · rw [hBk] at hb
            have ht := HC.out.ts.c 1 (by decide)
            have hz := HC.out.ts.fz 1
            have hle : tmid B T 1 1 ≤ 17 := tmid_le (HT16.out 1 (by decide))
            have HX : Hid (Cn W b n t c' g' v' N (tmid B T (1 + 1)) (wr.setCell ⟨t, 1, none⟩ (.int .i64 ((tmid B T 1 1 + 1 : Nat) : Int)))) := (HC.out.put 1 (by decide) _).to (fun j _ => tmid_yes hBk j)
            have HXB : Hid (BAt (wr.setCell ⟨t, 1, none⟩ (.int .i64 ((tmid B T 1 1 + 1 : Nat) : Int))) m B) := HB.out.other t 1 _ (Ne.symm HNE.out)
            generalize tmid B T 1 1 = y at *
            rw [show (((y + 1 : Nat)) : Int) = (y : Int) + 1 from rfl] at HX HXB
            clear hBk
            go_wp2
            go_roundw
            case rel => exact ⟨1 + 1, by omega, by first | rfl | go_num, HXB.out, HX.out⟩
            case measure => simp [intOf]
        · have hb := HB.out.c 2 (by decide)
          cases hBk : B 2
          · rw [hBk] at hb
            have HX : Hid (Cn W b n t c' g' v' N (tmid B T (2 + 1)) wr) := HC.out.to (fun j _ => tmid_no hBk j)
            clear hBk
            go_wp2
            go_roundw
            case rel => exact ⟨2 + 1, by omega, by first | rfl | go_num, HB.out, HX.out⟩
            case measure => simp [intOf]
          · rw [hBk] at hb
            have ht := HC.out.ts.c 2 (by decide)
            have hz := HC.out.ts.fz 2
            have hle : tmid B T 2 2 ≤ 17 := tmid_le (HT16.out 2 (by decide))
            have HX : Hid (Cn W b n t c' g' v' N (tmid B T (2 + 1)) (wr.setCell ⟨t, 2, none⟩ (.int .i64 ((tmid B T 2 2 + 1 : Nat) : Int)))) := (HC.out.put 2 (by decide) _).to (fun j _ => tmid_yes hBk j)
            have HXB : Hid (BAt (wr.setCell ⟨t, 2, none⟩ (.int .i64 ((tmid B T 2 2 + 1 : Nat) : Int))) m B) := HB.out.other t 2 _ (Ne.symm HNE.out)
            generalize tmid B T 2 2 = y at *
            rw [show (((y + 1 : Nat)) : Int) = (y : Int) + 1 from rfl] at HX HXB
            clear hBk
            go_wp2
            go_roundw
            case rel => exact ⟨2 + 1, by omega, by first | rfl | go_num, HXB.out, HX.out⟩
            case measure => simp [intOf]
        · have hb := HB.out.c 3 (by decide)
          cases hBk : B 3
          · rw [hBk] at hb
            have HX : Hid (Cn W b n t c' g' v' N (tmid B T (3 + 1)) wr) := HC.out.to (fun j _ => tmid_no hBk j)
            clear hBk
            go_wp2
            go_roundw
            case rel => exact ⟨3 + 1, by omega, by first | rfl | go_num, HB.out, HX.out⟩
            case measure => simp [intOf]
          · rw [hBk] at hb
            have ht := HC.out.ts.c 3 (by decide)
            have hz := HC.out.ts.fz 3
            have hle : tmid B T 3 3 ≤ 17 := tmid_le (HT16.out 3 (by decide))
            have HX : Hid (Cn W b n t c' g' v' N (tmid B T (3 + 1)) (wr.setCell ⟨t, 3, none⟩ (.int .i64 ((tmid B T 3 3 + 1 : Nat) : Int)))) := (HC.out.put 3 (by decide) _).to (fun j _ => tmid_yes hBk j)
            have HXB : Hid (BAt (wr.setCell ⟨t, 3, none⟩ (.int .i64 ((tmid B T 3 3 + 1 : Nat) : Int))) m B) := HB.out.other t 3 _ (Ne.symm HNE.out)
            generalize tmid B T 3 3 = y at *
            rw [show (((y + 1 : Nat)) : Int) = (y : Int) + 1 from rfl] at HX HXB
            clear hBk
            go_wp2
            go_roundw
            case rel => exact ⟨3 + 1, by omega, by first | rfl | go_num, HXB.out, HX.out⟩
            case measure => simp [intOf]
        · have hb := HB.out.c 4 (by decide)
          cases hBk : B 4
          · rw [hBk] at hb
            have HX : Hid (Cn W b n t c' g' v' N (tmid B T (4 + 1)) wr) := HC.out.to (fun j _ => tmid_no hBk j)
            clear hBk
            go_wp2
            go_roundw
            case rel => exact ⟨4 + 1, by omega, by first | rfl | go_num, HB.out, HX.out⟩
            case measure => simp [intOf]
          · rw [hBk] at hb
            have ht := HC.out.ts.c 4 (by decide)
            have hz := HC.out.ts.fz 4
            have hle : tmid B T 4 4 ≤ 17 := tmid_le (HT16.out 4 (by decide))
            have HX : Hid (Cn W b n t c' g' v' N (tmid B T (4 + 1)) (wr.setCell ⟨t, 4, none⟩ (.int .i64 ((tmid B T 4 4 + 1 : Nat) : Int)))) := (HC.out.put 4 (by decide) _).to (fun j _ => tmid_yes hBk j)
            have HXB : Hid (BAt (wr.setCell ⟨t, 4, none⟩ (.int .i64 ((tmid B T 4 4 + 1 : Nat) : Int))) m B) := HB.out.other t 4 _ (Ne.symm HNE.out)
            generalize tmid B T 4 4 = y at *
            rw [show (((y + 1 : Nat)) : Int) = (y : Int) + 1 from rfl] at HX HXB
            clear hBk
            go_wp2
            go_roundw
            case rel => exact ⟨4 + 1, by omega, by first | rfl | go_num, HXB.out, HX.out⟩
            case measure => simp [intOf]
        · go_wp2
          go_roundw
          case rel => exact ⟨i + 1, by omega, by first | rfl | go_num, _, _, _, _, HI1.out, HC.out.to (fun j hj => tmid_5 B T j hj)⟩
          case measure => simp [intOf]; omega
    · obtain rfl : i = 80 := by omega
      have HE : Hid (c = 16 ∧ ∀ k, k < 5 → T k = mvN (N k)) := inv_end HI.out
      clear hlt HI
      go_wp2
      go_loopw [10] (fun x wr => ∃ k : Nat, k ≤ 5 ∧ x = .int .i64 (k : Int) ∧ Cn W b n t c g v N T wr) (fun x _ => 5 - (intOf x).toNat)
      case atStart => exact ⟨0, by omega, rfl, H.out⟩
      case round =>
        obtain ⟨k, hk, rfl, hC⟩ := hrel
        have HC : Hid (Cn W b n t c g v N T wr) := hC
        clear hC H
        by_cases hlt : k < 5
        · obtain ⟨y, hy⟩ : ∃ y, N k = y := ⟨_, rfl⟩
          have ly : y < 256 := (by rw [← hy]; exact HC.out.ns.l k)
          have hn := HC.out.ns.c k hlt
          have ht := HC.out.ts.c k hlt
          rw [HE.out.2 k hlt] at ht
          rw [hy] at hn ht
          have hm := mv_mod y ly
          have lm := mvN_lt y
          generalize mvN y = z at *
          clear hy
          go_wp2
          go_quiet (fail)
          go_wp2
          go_roundw
          case rel => exact ⟨k + 1, by omega, by first | rfl | go_num, by first | exact HC.out.draws _ | exact HC.out⟩
          case measure => simp [intOf]; omega
        · obtain rfl : k = 5 := by omega
          go_wp2_with (first
            | (go_at_call 20; refine (Busy b c g v _ HC.out.p).mono ?_; rintro e w6 ⟨rfl, rfl⟩; rw [HE.out.1, show decide (16 < 16) = false from rfl])
            | (go_at_call 21; refine (awake17 _).mono ?_; rintro e w7 ⟨rfl, hB7⟩))
          go_returns
          exact ⟨rfl, b_keep HC.out.old hB7⟩

theorem walk (a0 : Int) (w0 : (Lit.int .u8 a0).wf = true) (a1_0 a1_1 a1_2 a1_3 a1_4 : Int) (w1_0 : (Lit.int .u8 a1_0).wf = true) (w1_1 : (Lit.int .u8 a1_1).wf = true) (w1_2 : (Lit.int .u8 a1_2).wf = true) (w1_3 : (Lit.int .u8 a1_3).wf = true) (w1_4 : (Lit.int .u8 a1_4).wf = true) (W : World) :
    Calls Try.prog 5 #[.int .u8 a0, .agg #[.int .u8 a1_0, .int .u8 a1_1, .int .u8 a1_2, .int .u8 a1_3, .int .u8 a1_4]] W fun e w' => e = .returned (.bool true) ∧ Below W.heap.size W w' := by
  have hb := bounds_u8 w0
  have b0 := bounds_u8 w1_0
  have b1 := bounds_u8 w1_1
  have b2 := bounds_u8 w1_2
  have b3 := bounds_u8 w1_3
  have b4 := bounds_u8 w1_4
  obtain ⟨s, rfl⟩ := Int.eq_ofNat_of_zero_le hb.1
  obtain ⟨n0, rfl⟩ := Int.eq_ofNat_of_zero_le b0.1
  obtain ⟨n1, rfl⟩ := Int.eq_ofNat_of_zero_le b1.1
  obtain ⟨n2, rfl⟩ := Int.eq_ofNat_of_zero_le b2.1
  obtain ⟨n3, rfl⟩ := Int.eq_ofNat_of_zero_le b3.1
  obtain ⟨n4, rfl⟩ := Int.eq_ofNat_of_zero_le b4.1
  exact good s n0 n1 n2 n3 n4 W (by omega) (by omega) (by omega) (by omega) (by omega) (by omega)

end Go.Proofs.Ytkondnlilkpdoaa.motionCounts
