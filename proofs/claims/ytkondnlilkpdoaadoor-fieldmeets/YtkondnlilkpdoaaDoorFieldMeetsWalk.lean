/- FieldMeets, walked: whatever comes in, true comes out. -/
import Derived.Test.YtkondnlilkpdoaaDoorAwakeF
import Derived.Test.YtkondnlilkpdoaaDoorFrame
set_option linter.unusedVariables false
namespace Go.Proofs.YtkondnlilkpdoaaDoor.fieldMeets
open Go.RowKit Fi

/-- How many of the first k dots are there. -/
def cn (D : Nat → Bool) : Nat → Nat
  | 0 => 0
  | k + 1 => if D k then cn D k + 1 else cn D k
theorem cn_le (D : Nat → Bool) : ∀ k, cn D k ≤ k
  | 0 => Nat.le_refl _
  | k + 1 => by have := cn_le D k; unfold cn; split <;> omega
/-- The dots and more, of the first k. -/
def orB (D M : Nat → Bool) (k j : Nat) : Bool := if j < k then D j || M j else D j
theorem zero_two : ∀ d0 d1 d2 d3 d4 d5 : Bool, (mt (six d0 d1 d2 d3 d4 d5) 15 = 0) ↔ cn (six d0 d1 d2 d3 d4 d5) 6 < 2 := by decide +kernel
theorem more_meet : ∀ d0 d1 d2 d3 d4 d5 m0 m1 m2 m3 m4 m5 : Bool, mt (six d0 d1 d2 d3 d4 d5) 15 &&& (65535 - mt (six (d0 || m0) (d1 || m1) (d2 || m2) (d3 || m3) (d4 || m4) (d5 || m5)) 15) = 0 := by decide +kernel

/-- Three boxes of dots; nothing old turned. -/
structure Mb (W : World) (p r q : Nat) (D M B : Nat → Bool) (w : World) : Prop where
  old : Below W.heap.size W w
  tab : Tab w
  dp : DAt w p D
  dr : DAt w r M
  dq : DAt w q B
  lo : W.heap.size ≤ q
  np : q ≠ p
  nr : q ≠ r
  gl : 0 < W.heap.size ∧ 1 < W.heap.size
section
variable {W w w' : World} {p r q : Nat} {D M B : Nat → Bool}
theorem Mb.below (h : Mb W p r q D M B w) (hb : Below w.heap.size w w') : Mb W p r q D M B w' :=
  ⟨b_keep h.old hb, h.tab.below hb (Nat.le_refl _), h.dp.below hb, h.dr.below hb, h.dq.below hb, h.lo, h.np, h.nr, h.gl⟩
theorem Mb.put (h : Mb W p r q D M B w) (k : Nat) (hk : k < 6) (x : Bool) : Mb W p r q D M (fun j => if j = k then x else B j) (w.setCell ⟨q, k, none⟩ (.bool x)) :=
  have ob : Below W.heap.size w (w.setCell ⟨q, k, none⟩ (.bool x)) := ⟨rfl, rfl, rfl, by simp [World.setCell], fun j hj => Below.heap_setCell _ _ _ _ (by show j ≠ q; have := h.lo; omega)⟩
  have e0 := ob.block _ h.gl.1
  have e1 := ob.block _ h.gl.2
  ⟨h.old.trans ob, ⟨fun k hk => (World.cell?_of_block (w := w) e0).trans (h.tab.p0 k hk), fun k hk => (World.cell?_of_block (w := w) e0).trans (h.tab.p1 k hk), fun k hk => (World.cell?_of_block (w := w) e1).trans (h.tab.h0 k hk), fun k hk => (World.cell?_of_block (w := w) e1).trans (h.tab.h1 k hk)⟩,
    h.dp.kept (Below.heap_setCell _ _ _ _ (Ne.symm h.np)), h.dr.kept (Below.heap_setCell _ _ _ _ (Ne.symm h.nr)), h.dq.put k hk x, h.lo, h.np, h.nr, h.gl⟩
theorem Mb.to (h : Mb W p r q D M B w) {B' : Nat → Bool} (e : ∀ j, j < 6 → B j = B' j) : Mb W p r q D M B' w := ⟨h.old, h.tab, h.dp, h.dr, h.dq.to e, h.lo, h.np, h.nr, h.gl⟩
end
theorem or_next {D M : Nat → Bool} {k : Nat} {x : Bool} (h : x = (D k || M k)) (j : Nat) : (if j = k then x else orB D M k j) = orB D M (k + 1) j := by
  unfold orB
  by_cases e : j = k
  · subst e; rw [if_pos rfl, if_pos (Nat.lt_succ_self j), h]
  · rw [if_neg e]
    by_cases l : j < k
    · rw [if_pos l, if_pos (show j < k + 1 by omega)]
    · rw [if_neg l, if_neg (show ¬ j < k + 1 by omega)]

set_option maxRecDepth 100000 in
set_option maxHeartbeats 8000000 in
theorem walk (d0 d1 d2 d3 d4 d5 m0 m1 m2 m3 m4 m5 : Bool) (W : World) (ht : Tab W) :
    Calls Tryd.prog 8 #[.agg #[.bool d0, .bool d1, .bool d2, .bool d3, .bool d4, .bool d5], .agg #[.bool m0, .bool m1, .bool m2, .bool m3, .bool m4, .bool m5]] W fun e w' => e = .returned (.bool true) ∧ Below W.heap.size W w' := by
  obtain ⟨D, hD⟩ : ∃ D, six d0 d1 d2 d3 d4 d5 = D := ⟨_, rfl⟩
  obtain ⟨M, hM⟩ : ∃ M, six m0 m1 m2 m3 m4 m5 = M := ⟨_, rfl⟩
  obtain ⟨a, ha⟩ : ∃ a, mt D 15 = a := ⟨_, rfl⟩
  obtain ⟨b, hb⟩ : ∃ b, mt (six (d0 || m0) (d1 || m1) (d2 || m2) (d3 || m3) (d4 || m4) (d5 || m5)) 15 = b := ⟨_, rfl⟩
  have la : a < 65536 := by rw [← ha]; exact Nat.lt_trans (mt_lt _ 15) (by decide)
  have lb : b < 65536 := by rw [← hb]; exact Nat.lt_trans (mt_lt _ 15) (by decide)
  have HAB : Hid (mt D 15 = a ∧ mt (six (d0 || m0) (d1 || m1) (d2 || m2) (d3 || m3) (d4 || m4) (d5 || m5)) 15 = b ∧ six d0 d1 d2 d3 d4 d5 = D ∧ six m0 m1 m2 m3 m4 m5 = M) := ⟨ha, hb, hD, hM⟩
  have HZ : Hid (((a : Int) == 0) = decide (cn D 6 < 2)) := (by have := zero_two d0 d1 d2 d3 d4 d5; rw [hD, ha] at this; rw [Bool.eq_iff_iff]; simp; omega : ((a : Int) == 0) = decide (cn D 6 < 2))
  have hN : (bits .andNot .u16 (a : Int) (b : Int) == 0) = true := by
    have := more_meet d0 d1 d2 d3 d4 d5 m0 m1 m2 m3 m4 m5
    rw [hD, ha, hb] at this
    rw [u16_andNot_nat _ _ la lb, this]; rfl
  have HNN : Hid ((bits .andNot .u16 (a : Int) (b : Int) == 0) = true) := hN
  have hb1 : Below W.heap.size W (W.alloc (.cells #[.bool d0, .bool d1, .bool d2, .bool d3, .bool d4, .bool d5] 26)) := (Below.refl _ W).alloc (Nat.le_refl _) _
  have hb2 : Below (W.alloc (.cells #[.bool d0, .bool d1, .bool d2, .bool d3, .bool d4, .bool d5] 26)).heap.size (W.alloc (.cells #[.bool d0, .bool d1, .bool d2, .bool d3, .bool d4, .bool d5] 26)) ((W.alloc (.cells #[.bool d0, .bool d1, .bool d2, .bool d3, .bool d4, .bool d5] 26)).alloc (.cells #[.bool m0, .bool m1, .bool m2, .bool m3, .bool m4, .bool m5] 26)) := (Below.refl _ _).alloc (Nat.le_refl _) _
  have hsz : (W.alloc (.cells #[.bool d0, .bool d1, .bool d2, .bool d3, .bool d4, .bool d5] 26)).heap.size = W.heap.size + 1 := by simp
  have hsz2 : ((W.alloc (.cells #[.bool d0, .bool d1, .bool d2, .bool d3, .bool d4, .bool d5] 26)).alloc (.cells #[.bool m0, .bool m1, .bool m2, .bool m3, .bool m4, .bool m5] 26)).heap.size = W.heap.size + 1 + 1 := by simp
  have hdm := new_dots (W.alloc (.cells #[.bool d0, .bool d1, .bool d2, .bool d3, .bool d4, .bool d5] 26)) m0 m1 m2 m3 m4 m5
  rw [hsz] at hdm
  have HP : Hid (Below W.heap.size W ((W.alloc (.cells #[.bool d0, .bool d1, .bool d2, .bool d3, .bool d4, .bool d5] 26)).alloc (.cells #[.bool m0, .bool m1, .bool m2, .bool m3, .bool m4, .bool m5] 26)) ∧ Tab ((W.alloc (.cells #[.bool d0, .bool d1, .bool d2, .bool d3, .bool d4, .bool d5] 26)).alloc (.cells #[.bool m0, .bool m1, .bool m2, .bool m3, .bool m4, .bool m5] 26)) ∧ DAt ((W.alloc (.cells #[.bool d0, .bool d1, .bool d2, .bool d3, .bool d4, .bool d5] 26)).alloc (.cells #[.bool m0, .bool m1, .bool m2, .bool m3, .bool m4, .bool m5] 26)) W.heap.size D ∧ DAt ((W.alloc (.cells #[.bool d0, .bool d1, .bool d2, .bool d3, .bool d4, .bool d5] 26)).alloc (.cells #[.bool m0, .bool m1, .bool m2, .bool m3, .bool m4, .bool m5] 26)) (W.heap.size + 1) M ∧ ((W.alloc (.cells #[.bool d0, .bool d1, .bool d2, .bool d3, .bool d4, .bool d5] 26)).alloc (.cells #[.bool m0, .bool m1, .bool m2, .bool m3, .bool m4, .bool m5] 26)).heap.size = W.heap.size + 1 + 1) := ⟨b_keep hb1 hb2, (ht.below hb1 (Nat.le_refl _)).below hb2 (Nat.le_refl _), hD ▸ (new_dots W d0 d1 d2 d3 d4 d5).below hb2, hM ▸ hdm, hsz2⟩
  have HGL : Hid (0 < W.heap.size ∧ 1 < W.heap.size) := ⟨ht.lt0, ht.lt1⟩
  clear hb1 hb2 hsz hsz2 hdm ht hD hM ha hb hN
  go_enter Tryd.func8, Tryd.ntmps8
  go_wp2_with (go_at_call 12; fail)
  generalize ((W.alloc (.cells #[.bool d0, .bool d1, .bool d2, .bool d3, .bool d4, .bool d5] 26)).alloc (.cells #[.bool m0, .bool m1, .bool m2, .bool m3, .bool m4, .bool m5] 26)) = v at *
  generalize W.heap.size + 1 = r at *
  obtain ⟨p, hp⟩ : ∃ p, W.heap.size = p := ⟨_, rfl⟩
  refine (Meet d0 d1 d2 d3 d4 d5 D _ HP.out.2.1 HAB.out.2.2.1).mono ?_
  rintro e w1 ⟨rfl, hB⟩
  rw [HAB.out.1]
  have HB1 : Hid (Below W.heap.size W w1 ∧ Tab w1 ∧ DAt w1 p D ∧ DAt w1 r M) := ⟨b_keep HP.out.1 hB, HP.out.2.1.below hB (Nat.le_refl _), hp ▸ HP.out.2.2.1.below hB, HP.out.2.2.2.1.below hB⟩
  have HPE : Hid (W.heap.size = p) := hp
  rw [hp]
  clear hB HP hp
  have HQ : Hid (DAt (w1.alloc (.cells #[.bool d0, .bool d1, .bool d2, .bool d3, .bool d4, .bool d5] 26)) w1.heap.size D) := HAB.out.2.2.1 ▸ new_dots w1 d0 d1 d2 d3 d4 d5
  have HB2 : Hid (Below w1.heap.size w1 (w1.alloc (.cells #[.bool d0, .bool d1, .bool d2, .bool d3, .bool d4, .bool d5] 26))) := (Below.refl _ w1).alloc (Nat.le_refl _) _

  have c0 : w1.cell? ⟨p, 0, none⟩ = some (.bool d0) := by have := HB1.out.2.2.1.c 0 (by decide); rw [← HAB.out.2.2.1] at this; exact this
  have c1 : w1.cell? ⟨p, 1, none⟩ = some (.bool d1) := by have := HB1.out.2.2.1.c 1 (by decide); rw [← HAB.out.2.2.1] at this; exact this
  have c2 : w1.cell? ⟨p, 2, none⟩ = some (.bool d2) := by have := HB1.out.2.2.1.c 2 (by decide); rw [← HAB.out.2.2.1] at this; exact this
  have c3 : w1.cell? ⟨p, 3, none⟩ = some (.bool d3) := by have := HB1.out.2.2.1.c 3 (by decide); rw [← HAB.out.2.2.1] at this; exact this
  have c4 : w1.cell? ⟨p, 4, none⟩ = some (.bool d4) := by have := HB1.out.2.2.1.c 4 (by decide); rw [← HAB.out.2.2.1] at this; exact this
  have c5 : w1.cell? ⟨p, 5, none⟩ = some (.bool d5) := by have := HB1.out.2.2.1.c 5 (by decide); rw [← HAB.out.2.2.1] at this; exact this
  go_wp2
  generalize w1.alloc (.cells #[.bool d0, .bool d1, .bool d2, .bool d3, .bool d4, .bool d5] 26) = w2 at *
  have HL : Hid (p < w1.heap.size ∧ r < w1.heap.size) := (⟨HB1.out.2.2.1.lt, HB1.out.2.2.2.lt⟩ : p < w1.heap.size ∧ r < w1.heap.size)
  obtain ⟨q, hq⟩ : ∃ q, w1.heap.size = q := ⟨_, rfl⟩
  have H0 : Hid (Mb W p r q D M (orB D M 0) w2) := (⟨b_keep HB1.out.1 HB2.out, HB1.out.2.1.below HB2.out (Nat.le_refl _), HB1.out.2.2.1.below HB2.out, HB1.out.2.2.2.below HB2.out, (hq ▸ HQ.out).to (fun j _ => by unfold orB; rw [if_neg (by omega)]), by have := HB1.out.1.size; omega, by have := HL.out; omega, by have := HL.out; omega, HGL.out⟩ : Mb W p r q D M (orB D M 0) w2)
  rw [hq]
  clear hq HQ HB2 HB1 HL c0 c1 c2 c3 c4 c5
  go_loopw [6, 8] (fun x y wr => ∃ k : Nat, k ≤ 6 ∧ x = .int .i64 (cn D k : Int) ∧ y = .int .i64 (k : Int) ∧ Mb W p r q D M (orB D M k) wr) (fun _ y _ => 6 - (intOf y).toNat)
  case atStart => exact ⟨0, by omega, rfl, rfl, H0.out⟩
  case round =>
    obtain ⟨k, hk, rfl, rfl, hH⟩ := hrel
    have H : Hid (Mb W p r q D M (orB D M k) wr) := hH
    clear hH H0
    obtain ⟨n, hn⟩ : ∃ n, cn D k = n := ⟨_, rfl⟩
    have HC : Hid (cn D k = n) := hn
    have ln : n ≤ 6 := by rw [← hn]; exact Nat.le_trans (cn_le D k) hk
    rw [hn]
    clear hn
    rcases (show k = 0 ∨ k = 1 ∨ k = 2 ∨ k = 3 ∨ k = 4 ∨ k = 5 ∨ k = 6 by omega) with rfl | rfl | rfl | rfl | rfl | rfl | rfl
    · have cq : wr.cell? ⟨q, 0, none⟩ = some (.bool (D 0)) := by have := H.out.dq.c 0 (by decide); rwa [show orB D M 0 0 = D 0 from if_neg (by omega)] at this
      have fq := H.out.dq.fz 0
      have cr := H.out.dr.c 0 (by decide)
      have cp := H.out.dp.c 0 (by decide)
      have rq := H.out.nr
      have pq := H.out.np
      have qp := Ne.symm pq
      have HN : Hid (∀ x, x = (D 0 || M 0) → Mb W p r q D M (orB D M (0 + 1)) (wr.setCell ⟨q, 0, none⟩ (.bool x))) := (fun x hx => (H.out.put 0 (by decide) x).to (fun j _ => or_next hx j) : ∀ x, x = (D 0 || M 0) → Mb W p r q D M (orB D M (0 + 1)) (wr.setCell ⟨q, 0, none⟩ (.bool x)))
      have HCN : Hid (cn D (0 + 1) = if D 0 then n + 1 else n) := (by rw [← HC.out]; rfl : cn D (0 + 1) = if D 0 then n + 1 else n)
      generalize D 0 = x at *
      generalize M 0 = y at *
      cases x
      · have HE : Hid (cn D (0 + 1) = n) := HCN.out
        clear HCN
        go_wp2
        go_roundw
        case rel => exact ⟨0 + 1, by omega, by rw [HE.out], by first | rfl | go_num, HN.out _ (by simp)⟩
        case measure => simp [intOf]
      · have HE : Hid (cn D (0 + 1) = n + 1) := HCN.out
        clear HCN
        go_wp2
        go_roundw
        case rel => exact ⟨0 + 1, by omega, by rw [HE.out]; go_num, by first | rfl | go_num, HN.out _ (by simp)⟩
        case measure => simp [intOf]
    · have cq : wr.cell? ⟨q, 1, none⟩ = some (.bool (D 1)) := by have := H.out.dq.c 1 (by decide); rwa [show orB D M 1 1 = D 1 from if_neg (by omega)] at this
      have fq := H.out.dq.fz 1
      have cr := H.out.dr.c 1 (by decide)
      have cp := H.out.dp.c 1 (by decide)
      have rq := H.out.nr
      have pq := H.out.np
      have qp := Ne.symm pq
      have HN : Hid (∀ x, x = (D 1 || M 1) → Mb W p r q D M (orB D M (1 + 1)) (wr.setCell ⟨q, 1, none⟩ (.bool x))) := (fun x hx => (H.out.put 1 (by decide) x).to (fun j _ => or_next hx j) : ∀ x, x = (D 1 || M 1) → Mb W p r q D M (orB D M (1 + 1)) (wr.setCell ⟨q, 1, none⟩ (.bool x)))
      have HCN : Hid (cn D (1 + 1) = if D 1 then n + 1 else n) := (by rw [← HC.out]; rfl : cn D (1 + 1) = if D 1 then n + 1 else n)
      generalize D 1 = x at *
      generalize M 1 = y at *
      cases x
      · have HE : Hid (cn D (1 + 1) = n) := HCN.out
        clear HCN
        go_wp2
        go_roundw
        case rel => exact ⟨1 + 1, by omega, by rw [HE.out], by first | rfl | go_num, HN.out _ (by simp)⟩
        case measure => simp [intOf]
      · have HE : Hid (cn D (1 + 1) = n + 1) := HCN.out
        clear HCN
        go_wp2
        go_roundw
        case rel => exact ⟨1 + 1, by omega, by rw [HE.out]; go_num, by first | rfl | go_num, HN.out _ (by simp)⟩
        case measure => simp [intOf]
    · have cq : wr.cell? ⟨q, 2, none⟩ = some (.bool (D 2)) := by have := H.out.dq.c 2 (by decide); rwa [show orB D M 2 2 = D 2 from if_neg (by omega)] at this
      have fq := H.out.dq.fz 2
      have cr := H.out.dr.c 2 (by decide)
      have cp := H.out.dp.c 2 (by decide)
      have rq := H.out.nr
      have pq := H.out.np
      have qp := Ne.symm pq
      have HN : Hid (∀ x, x = (D 2 || M 2) → Mb W p r q D M (orB D M (2 + 1)) (wr.setCell ⟨q, 2, none⟩ (.bool x))) := (fun x hx => (H.out.put 2 (by decide) x).to (fun j _ => or_next hx j) : ∀ x, x = (D 2 || M 2) → Mb W p r q D M (orB D M (2 + 1)) (wr.setCell ⟨q, 2, none⟩ (.bool x)))
      have HCN : Hid (cn D (2 + 1) = if D 2 then n + 1 else n) := (by rw [← HC.out]; rfl : cn D (2 + 1) = if D 2 then n + 1 else n)
      generalize D 2 = x at *
      generalize M 2 = y at *
      cases x
      · have HE : Hid (cn D (2 + 1) = n) := HCN.out
        clear HCN
        go_wp2
        go_roundw
        case rel => exact ⟨2 + 1, by omega, by rw [HE.out], by first | rfl | go_num, HN.out _ (by simp)⟩
        case measure => simp [intOf]
      · have HE : Hid (cn D (2 + 1) = n + 1) := HCN.out
        clear HCN
        go_wp2
        go_roundw
        case rel => exact ⟨2 + 1, by omega, by rw [HE.out]; go_num, by first | rfl | go_num, HN.out _ (by simp)⟩
        case measure => simp [intOf]
    · have cq : wr.cell? ⟨q, 3, none⟩ = some (.bool (D 3)) := by have := H.out.dq.c 3 (by decide); rwa [show orB D M 3 3 = D 3 from if_neg (by omega)] at this
      have fq := H.out.dq.fz 3
      have cr := H.out.dr.c 3 (by decide)
      have cp := H.out.dp.c 3 (by decide)
      have rq := H.out.nr
      have pq := H.out.np
      have qp := Ne.symm pq
      have HN : Hid (∀ x, x = (D 3 || M 3) → Mb W p r q D M (orB D M (3 + 1)) (wr.setCell ⟨q, 3, none⟩ (.bool x))) := (fun x hx => (H.out.put 3 (by decide) x).to (fun j _ => or_next hx j) : ∀ x, x = (D 3 || M 3) → Mb W p r q D M (orB D M (3 + 1)) (wr.setCell ⟨q, 3, none⟩ (.bool x)))
      have HCN : Hid (cn D (3 + 1) = if D 3 then n + 1 else n) := (by rw [← HC.out]; rfl : cn D (3 + 1) = if D 3 then n + 1 else n)
      generalize D 3 = x at *
      generalize M 3 = y at *
      cases x
      · have HE : Hid (cn D (3 + 1) = n) := HCN.out
        clear HCN
        go_wp2
        go_roundw
        case rel => exact ⟨3 + 1, by omega, by rw [HE.out], by first | rfl | go_num, HN.out _ (by simp)⟩
        case measure => simp [intOf]
      · have HE : Hid (cn D (3 + 1) = n + 1) := HCN.out
        clear HCN
        go_wp2
        go_roundw
        case rel => exact ⟨3 + 1, by omega, by rw [HE.out]; go_num, by first | rfl | go_num, HN.out _ (by simp)⟩
        case measure => simp [intOf]
    · have cq : wr.cell? ⟨q, 4, none⟩ = some (.bool (D 4)) := by have := H.out.dq.c 4 (by decide); rwa [show orB D M 4 4 = D 4 from if_neg (by omega)] at this
      have fq := H.out.dq.fz 4
      have cr := H.out.dr.c 4 (by decide)
      have cp := H.out.dp.c 4 (by decide)
      have rq := H.out.nr
      have pq := H.out.np
      have qp := Ne.symm pq
      have HN : Hid (∀ x, x = (D 4 || M 4) → Mb W p r q D M (orB D M (4 + 1)) (wr.setCell ⟨q, 4, none⟩ (.bool x))) := (fun x hx => (H.out.put 4 (by decide) x).to (fun j _ => or_next hx j) : ∀ x, x = (D 4 || M 4) → Mb W p r q D M (orB D M (4 + 1)) (wr.setCell ⟨q, 4, none⟩ (.bool x)))
      have HCN : Hid (cn D (4 + 1) = if D 4 then n + 1 else n) := (by rw [← HC.out]; rfl : cn D (4 + 1) = if D 4 then n + 1 else n)
      generalize D 4 = x at *
      generalize M 4 = y at *
      cases x
      · have HE : Hid (cn D (4 + 1) = n) := HCN.out
        clear HCN
        go_wp2
        go_roundw
        case rel => exact ⟨4 + 1, by omega, by rw [HE.out], by first | rfl | go_num, HN.out _ (by simp)⟩
        case measure => simp [intOf]
      · have HE : Hid (cn D (4 + 1) = n + 1) := HCN.out
        clear HCN
        go_wp2
        go_roundw
        case rel => exact ⟨4 + 1, by omega, by rw [HE.out]; go_num, by first | rfl | go_num, HN.out _ (by simp)⟩
        case measure => simp [intOf]
    · have cq : wr.cell? ⟨q, 5, none⟩ = some (.bool (D 5)) := by have := H.out.dq.c 5 (by decide); rwa [show orB D M 5 5 = D 5 from if_neg (by omega)] at this
      have fq := H.out.dq.fz 5
      have cr := H.out.dr.c 5 (by decide)
      have cp := H.out.dp.c 5 (by decide)
      have rq := H.out.nr
      have pq := H.out.np
      have qp := Ne.symm pq
      have HN : Hid (∀ x, x = (D 5 || M 5) → Mb W p r q D M (orB D M (5 + 1)) (wr.setCell ⟨q, 5, none⟩ (.bool x))) := (fun x hx => (H.out.put 5 (by decide) x).to (fun j _ => or_next hx j) : ∀ x, x = (D 5 || M 5) → Mb W p r q D M (orB D M (5 + 1)) (wr.setCell ⟨q, 5, none⟩ (.bool x)))
      have HCN : Hid (cn D (5 + 1) = if D 5 then n + 1 else n) := (by rw [← HC.out]; rfl : cn D (5 + 1) = if D 5 then n + 1 else n)
      generalize D 5 = x at *
      generalize M 5 = y at *
      cases x
      · have HE : Hid (cn D (5 + 1) = n) := HCN.out
        clear HCN
        go_wp2
        go_roundw
        case rel => exact ⟨5 + 1, by omega, by rw [HE.out], by first | rfl | go_num, HN.out _ (by simp)⟩
        case measure => simp [intOf]
      · have HE : Hid (cn D (5 + 1) = n + 1) := HCN.out
        clear HCN
        go_wp2
        go_roundw
        case rel => exact ⟨5 + 1, by omega, by rw [HE.out]; go_num, by first | rfl | go_num, HN.out _ (by simp)⟩
        case measure => simp [intOf]
    · have HF : Hid (Mb W p r q D M (six (d0 || m0) (d1 || m1) (d2 || m2) (d3 || m3) (d4 || m4) (d5 || m5)) wr) := H.out.to (fun j hj => by
        rw [← HAB.out.2.2.1, ← HAB.out.2.2.2]
        rcases (show j = 0 ∨ j = 1 ∨ j = 2 ∨ j = 3 ∨ j = 4 ∨ j = 5 by omega) with rfl | rfl | rfl | rfl | rfl | rfl <;> rfl)
      have c0 : wr.cell? ⟨q, 0, none⟩ = some (.bool (d0 || m0)) := HF.out.dq.c 0 (by decide)
      have c1 : wr.cell? ⟨q, 1, none⟩ = some (.bool (d1 || m1)) := HF.out.dq.c 1 (by decide)
      have c2 : wr.cell? ⟨q, 2, none⟩ = some (.bool (d2 || m2)) := HF.out.dq.c 2 (by decide)
      have c3 : wr.cell? ⟨q, 3, none⟩ = some (.bool (d3 || m3)) := HF.out.dq.c 3 (by decide)
      have c4 : wr.cell? ⟨q, 4, none⟩ = some (.bool (d4 || m4)) := HF.out.dq.c 4 (by decide)
      have c5 : wr.cell? ⟨q, 5, none⟩ = some (.bool (d5 || m5)) := HF.out.dq.c 5 (by decide)
      have hz : ((a : Int) == 0) = decide (n < 2) := by rw [HZ.out, HC.out]
      have hzz : ((a : Int) == 0) = decide ((n : Int) < 2) := by rw [hz]; simp; omega
      have HZZ : Hid (((a : Int) == 0) = decide ((n : Int) < 2)) := hzz
      clear hz hzz H
      go_wp2_with (go_at_call 12; fail)
      refine (Meet (d0 || m0) (d1 || m1) (d2 || m2) (d3 || m3) (d4 || m4) (d5 || m5) _ _ HF.out.tab rfl).mono ?_
      rintro e w5 ⟨rfl, hB⟩
      rw [HAB.out.2.1]
      have H5 : Hid (Mb W p r q D M (six (d0 || m0) (d1 || m1) (d2 || m2) (d3 || m3) (d4 || m4) (d5 || m5)) w5) := HF.out.below hB
      have hN := HNN.out
      have hZ := HZZ.out
      clear hB c0 c1 c2 c3 c4 c5
      obtain ⟨zz, hzz⟩ : ∃ z, decide ((n : Int) < 2) = z := ⟨_, rfl⟩
      rw [hzz] at hZ
      go_wp2_with (go_at_call 11; fail)
      refine (awake18 _ H5.out.tab).mono ?_
      rintro e w6 ⟨rfl, hB6⟩
      go_wp2
      go_returns
      exact ⟨rfl, b_keep H5.out.old hB6⟩

end Go.Proofs.YtkondnlilkpdoaaDoor.fieldMeets
