/- MotionCopies, no more than two hundred acts: walked. -/
import Derived.Test.YtkondnlilkpdoaaMotionPM
import Derived.Deep.RegionHeld3
set_option linter.unusedVariables false
namespace Go.Proofs.Ytkondnlilkpdoaa.motionCopies
open Go.RowKit Mo

/-- The motion, its copy, the new one, the box of words, the nibbles' box. -/
structure Tl (W : World) (b b2 d u p c g v c2 g2 v2 c3 g3 v3 n0 n1 n2 n3 n4 : Nat) (w : World) : Prop where
  m : Mc W b c g v w
  cp : MAt w b2 c2 g2 v2
  dn : MAt w d c3 g3 v3
  wu : w.heap[u]? = some (.cells #[.int .i64 (c : Int), .int .i64 (g : Int), .int .i64 (v : Int)] 30 (0, 0))
  wp : w.heap[p]? = some (.cells #[.int .u8 (n0 : Int), .int .u8 (n1 : Int), .int .u8 (n2 : Int), .int .u8 (n3 : Int), .int .u8 (n4 : Int)] 29 (0, 0))
  ap : p < b ∧ b < u ∧ u < b2 ∧ b2 < d
  lo : W.heap.size ≤ b2 ∧ W.heap.size ≤ d
section
variable {W w w' : World} {b b2 d u p c g v c2 g2 v2 c3 g3 v3 n0 n1 n2 n3 n4 : Nat}
theorem Tl.ult (h : Tl W b b2 d u p c g v c2 g2 v2 c3 g3 v3 n0 n1 n2 n3 n4 w) : u < w.heap.size := (Array.getElem?_eq_some_iff.1 h.wu).1
theorem Tl.plt (h : Tl W b b2 d u p c g v c2 g2 v2 c3 g3 v3 n0 n1 n2 n3 n4 w) : p < w.heap.size := (Array.getElem?_eq_some_iff.1 h.wp).1
theorem Tl.below (h : Tl W b b2 d u p c g v c2 g2 v2 c3 g3 v3 n0 n1 n2 n3 n4 w) (hb : Below w.heap.size w w') : Tl W b b2 d u p c g v c2 g2 v2 c3 g3 v3 n0 n1 n2 n3 n4 w' :=
  ⟨h.m.below hb, h.cp.below hb, h.dn.below hb, (hb.block u h.ult).trans h.wu, (hb.block p h.plt).trans h.wp, h.ap, h.lo⟩
theorem Tl.turn2 {c' g' v' : Nat} (h : Tl W b b2 d u p c g v c2 g2 v2 c3 g3 v3 n0 n1 n2 n3 n4 w) (ht : Turn b2 w w') (hp : MAt w' b2 c' g' v') : Tl W b b2 d u p c g v c' g' v' c3 g3 v3 n0 n1 n2 n3 n4 w' :=
  ⟨⟨h.m.p.turn ht (by have := h.ap; omega), h.m.rt, m_back h.lo.1 h.m.old ht, h.m.lo⟩, hp, h.dn.turn ht (by have := h.ap; omega), (ht.block u h.ult (by have := h.ap; omega)).trans h.wu, (ht.block p h.plt (by have := h.ap; omega)).trans h.wp, h.ap, h.lo⟩
theorem Tl.turn3 {c' g' v' : Nat} (h : Tl W b b2 d u p c g v c2 g2 v2 c3 g3 v3 n0 n1 n2 n3 n4 w) (ht : Turn d w w') (hp : MAt w' d c' g' v') : Tl W b b2 d u p c g v c2 g2 v2 c' g' v' n0 n1 n2 n3 n4 w' :=
  ⟨⟨h.m.p.turn ht (by have := h.ap; omega), h.m.rt, m_back h.lo.2 h.m.old ht, h.m.lo⟩, h.cp.turn ht (by have := h.ap; omega), hp, (ht.block u h.ult (by have := h.ap; omega)).trans h.wu, (ht.block p h.plt (by have := h.ap; omega)).trans h.wp, h.ap, h.lo⟩
theorem Tl.alloc (h : Tl W b b2 d u p c g v c2 g2 v2 c3 g3 v3 n0 n1 n2 n3 n4 w) (o : Obj) : Tl W b b2 d u p c g v c2 g2 v2 c3 g3 v3 n0 n1 n2 n3 n4 (w.alloc o) := h.below ((Below.refl _ w).alloc (Nat.le_refl _) o)
theorem Tl.draws (h : Tl W b b2 d u p c g v c2 g2 v2 c3 g3 v3 n0 n1 n2 n3 n4 w) (q : Nat) : Tl W b b2 d u p c g v c2 g2 v2 c3 g3 v3 n0 n1 n2 n3 n4 (w.drewN q) := h.below (below_drewN (Below.refl _ w) q)
theorem Tl.set (h : Tl W b b2 d u p c g v c2 g2 v2 c3 g3 v3 n0 n1 n2 n3 n4 w) {r : Nat} (hr : d < r) (o : Nat) (x : Value) : Tl W b b2 d u p c g v c2 g2 v2 c3 g3 v3 n0 n1 n2 n3 n4 (w.setCell ⟨r, o, none⟩ x) :=
  have ap := h.ap
  ⟨⟨h.m.p.other r o _ (by omega), h.m.rt, h.m.old.trans ⟨rfl, rfl, rfl, by simp [World.setCell], fun j hj => Below.heap_setCell _ _ _ _ (by show j ≠ r; have := h.lo; omega)⟩, h.m.lo⟩, h.cp.other r o _ (by omega), h.dn.other r o _ (by omega), (Below.heap_setCell _ _ _ _ (by show u ≠ r; omega)).trans h.wu, (Below.heap_setCell _ _ _ _ (by show p ≠ r; omega)).trans h.wp, h.ap, h.lo⟩
theorem Tl.p5 (h : Tl W b b2 d u p c g v c2 g2 v2 c3 g3 v3 n0 n1 n2 n3 n4 w) {r : Nat} (hr : d < r) (x0 x1 x2 x3 x4 : Value) : Tl W b b2 d u p c g v c2 g2 v2 c3 g3 v3 n0 n1 n2 n3 n4 (((((w.setCell ⟨r, 0, none⟩ x0).setCell ⟨r, 1, none⟩ x1).setCell ⟨r, 2, none⟩ x2).setCell ⟨r, 3, none⟩ x3).setCell ⟨r, 4, none⟩ x4) :=
  ((((h.set hr 0 x0).set hr 1 x1).set hr 2 x2).set hr 3 x3).set hr 4 x4
end

/-- All of it: the five, and two boxes of the same answers. -/
structure Al (W : World) (b b2 d u p c g v c' g' v' n0 n1 n2 n3 n4 t1 t2 : Nat) (B : Nat → Bool) (w : World) : Prop where
  t : Tl W b b2 d u p c g v c' g' v' c' g' v' n0 n1 n2 n3 n4 w
  x : BAt w t1 B
  y : BAt w t2 B
theorem Al.below {W w w' : World} {b b2 d u p c g v c' g' v' n0 n1 n2 n3 n4 t1 t2 : Nat} {B : Nat → Bool} (h : Al W b b2 d u p c g v c' g' v' n0 n1 n2 n3 n4 t1 t2 B w) (hb : Below w.heap.size w w') : Al W b b2 d u p c g v c' g' v' n0 n1 n2 n3 n4 t1 t2 B w' := ⟨h.t.below hb, h.x.below hb, h.y.below hb⟩

set_option maxRecDepth 100000 in
set_option maxHeartbeats 8000000 in
theorem good (A : List Mo.Act) (ao : Option Addr) (cap b0 off0 : Nat) (clock : Int) (n0 n1 n2 n3 n4 : Nat) (W : World) (hA : ∀ a ∈ A, a.ok) (hl : A.length ≤ 200) (hS : SeenX W ao cap b0 off0 10 (A.map Mo.Act.row)) (l0 : n0 < 256) (l1 : n1 < 256) (l2 : n2 < 256) (l3 : n3 < 256) (l4 : n4 < 256) :
    Calls Try.prog 7 #[.slice ao A.length cap, .int .i64 clock, .agg #[.int .u8 (n0 : Int), .int .u8 (n1 : Int), .int .u8 (n2 : Int), .int .u8 (n3 : Int), .int .u8 (n4 : Int)]] W fun e w' => e = .returned (.bool true) ∧ Below W.heap.size W w' := by
  have HA : Hid (∀ a ∈ A, a.ok) := hA
  have HS : Hid (SeenX W ao cap b0 off0 10 (A.map Mo.Act.row)) := hS
  have HNL : Hid (n0 < 256 ∧ n1 < 256 ∧ n2 < 256 ∧ n3 < 256 ∧ n4 < 256) := ⟨l0, l1, l2, l3, l4⟩
  have hcap := hS.max
  have hle := hS.le
  rw [List.length_map] at hle
  clear hA hS l0 l1 l2 l3 l4
  generalize hn : A.length = n at *
  have HN : Hid (A.length = n) := hn
  clear hn
  have hB0 : Below W.heap.size W (W.alloc (.cells #[.int .u8 (n0 : Int), .int .u8 (n1 : Int), .int .u8 (n2 : Int), .int .u8 (n3 : Int), .int .u8 (n4 : Int)] 29)) := (Below.refl _ W).alloc (Nat.le_refl _) _
  have hh := heap_alloc_new W (.cells #[.int .u8 (n0 : Int), .int .u8 (n1 : Int), .int .u8 (n2 : Int), .int .u8 (n3 : Int), .int .u8 (n4 : Int)] 29)
  have HB0 : Hid (Below W.heap.size W (W.alloc (.cells #[.int .u8 (n0 : Int), .int .u8 (n1 : Int), .int .u8 (n2 : Int), .int .u8 (n3 : Int), .int .u8 (n4 : Int)] 29)) ∧ (W.alloc (.cells #[.int .u8 (n0 : Int), .int .u8 (n1 : Int), .int .u8 (n2 : Int), .int .u8 (n3 : Int), .int .u8 (n4 : Int)] 29)).heap[W.heap.size]? = some (.cells #[.int .u8 (n0 : Int), .int .u8 (n1 : Int), .int .u8 (n2 : Int), .int .u8 (n3 : Int), .int .u8 (n4 : Int)] 29 (0, 0))) := ⟨hB0, hh⟩
  clear hB0 hh
  go_enter Try.func7, Try.ntmps7
  go_wp2_with (go_at_call 9; fail)
  generalize W.alloc (.cells #[.int .u8 (n0 : Int), .int .u8 (n1 : Int), .int .u8 (n2 : Int), .int .u8 (n3 : Int), .int .u8 (n4 : Int)] 29) = wn at *
  refine (New wn).mono ?_
  rintro e w1 ⟨b, rfl, hb, hA1, hB1⟩
  have HM : Hid (Mc W b 16 0 0 w1 ∧ w1.heap[W.heap.size]? = wn.heap[W.heap.size]? ∧ W.heap.size < b) := (by
    have s0 := HB0.out.1.size
    have l0 : W.heap.size < wn.heap.size := (Array.getElem?_eq_some_iff.1 HB0.out.2).1
    exact ⟨mc_new hA1 (by omega) (b_keep HB0.out.1 hB1), hB1.block _ l0, by omega⟩ : Mc W b 16 0 0 w1 ∧ w1.heap[W.heap.size]? = wn.heap[W.heap.size]? ∧ W.heap.size < b)
  have HNB : Hid (w1.heap[W.heap.size]? = some (.cells #[.int .u8 (n0 : Int), .int .u8 (n1 : Int), .int .u8 (n2 : Int), .int .u8 (n3 : Int), .int .u8 (n4 : Int)] 29 (0, 0)) ∧ W.heap.size < b) := ⟨HM.out.2.1.trans HB0.out.2, HM.out.2.2⟩
  have HR0 : Hid (Mc W b 16 0 0 w1) := HM.out.1
  clear hb hA1 hB1 HM HB0
  go_wp2
  obtain ⟨p, hp⟩ : ∃ p, W.heap.size = p := ⟨_, rfl⟩
  have HP : Hid (W.heap.size = p) := hp
  have HNB2 : Hid (w1.heap[p]? = some (.cells #[.int .u8 (n0 : Int), .int .u8 (n1 : Int), .int .u8 (n2 : Int), .int .u8 (n3 : Int), .int .u8 (n4 : Int)] 29 (0, 0)) ∧ p < b) := (by rw [← hp]; exact HNB.out : w1.heap[p]? = some (.cells #[.int .u8 (n0 : Int), .int .u8 (n1 : Int), .int .u8 (n2 : Int), .int .u8 (n3 : Int), .int .u8 (n4 : Int)] 29 (0, 0)) ∧ p < b)
  rw [hp]
  clear hp HNB
  go_loopw [8] (fun x wr => ∃ k c g v : Nat, k ≤ n ∧ x = .int .i64 (k : Int) ∧ Mc W b c g v wr ∧ wr.heap[p]? = some (.cells #[.int .u8 (n0 : Int), .int .u8 (n1 : Int), .int .u8 (n2 : Int), .int .u8 (n3 : Int), .int .u8 (n4 : Int)] 29 (0, 0))) (fun x _ => n - (intOf x).toNat)
  case atStart => exact ⟨0, 16, 0, 0, by omega, rfl, HR0.out, HNB2.out.1⟩
  case round =>
    obtain ⟨k, c, g, v, hk, rfl, hR, hP⟩ := hrel
    have HR : Hid (Mc W b c g v wr) := hR
    have HPB : Hid (wr.heap[p]? = some (.cells #[.int .u8 (n0 : Int), .int .u8 (n1 : Int), .int .u8 (n2 : Int), .int .u8 (n3 : Int), .int .u8 (n4 : Int)] 29 (0, 0)) ∧ p < b) := ⟨hP, HNB2.out.2⟩
    clear hR hP HR0 HNB2
    by_cases hkn : k < n
    · obtain ⟨a, ha⟩ : ∃ a, A[k]? = some a := ⟨_, List.getElem?_eq_getElem (by rw [HN.out]; exact hkn)⟩
      have HO : Hid a.ok := HA.out a (List.mem_of_getElem? ha)
      have hrow : (A.map Mo.Act.row)[k]? = some a.row := by rw [List.getElem?_map, ha]; rfl
      have hao := HS.out.at_ (fun e => by rw [e] at hrow; cases hrow)
      subst hao
      have HC : Hid (∀ w', Below W.heap.size W w' → w'.cell? ⟨b0, off0 + k * 10, none⟩ = some (.int .i64 a.kind) ∧ w'.cell? ⟨b0, off0 + k * 10 + 1, none⟩ = some (.int .i64 a.clock) ∧ w'.cell? ⟨b0, off0 + k * 10 + 2, none⟩ = some (.int .u8 (a.n0 : Int)) ∧ w'.cell? ⟨b0, off0 + k * 10 + 3, none⟩ = some (.int .u8 (a.n1 : Int)) ∧ w'.cell? ⟨b0, off0 + k * 10 + 4, none⟩ = some (.int .u8 (a.n2 : Int)) ∧ w'.cell? ⟨b0, off0 + k * 10 + 5, none⟩ = some (.int .u8 (a.n3 : Int)) ∧ w'.cell? ⟨b0, off0 + k * 10 + 6, none⟩ = some (.int .u8 (a.n4 : Int)) ∧ w'.cell? ⟨b0, off0 + k * 10 + 7, none⟩ = some (.int .i64 a.x) ∧ w'.cell? ⟨b0, off0 + k * 10 + 8, none⟩ = some (.int .i64 a.y) ∧ w'.cell? ⟨b0, off0 + k * 10 + 9, none⟩ = some (.int .i64 a.z)) := fun w' hw' =>
        have hSr := HS.out.below hw' (Nat.le_refl _)
        ⟨hSr.cell k _ hrow 0 _ rfl, hSr.cell k _ hrow 1 _ rfl, hSr.cell k _ hrow 2 _ rfl, hSr.cell k _ hrow 3 _ rfl, hSr.cell k _ hrow 4 _ rfl, hSr.cell k _ hrow 5 _ rfl, hSr.cell k _ hrow 6 _ rfl, hSr.cell k _ hrow 7 _ rfl, hSr.cell k _ hrow 8 _ rfl, hSr.cell k _ hrow 9 _ rfl⟩
      obtain ⟨c0, c1, c2, c3, c4, c5, c6, c7, c8, c9⟩ := HC.out _ HR.out.old
      obtain ⟨q, hq⟩ : ∃ q, a.kind.tmod 5 = q := ⟨_, rfl⟩
      obtain ⟨q1, q2⟩ := kind5 hq
      have k0 : (0 : Int) ≤ (k : Int) := by omega
      have k1 : (k : Int) < (n : Int) := by omega
      have kb : -9223372036854775808 ≤ a.kind ∧ a.kind ≤ 9223372036854775807 := HO.out.1
      obtain ⟨kb1, kb2⟩ := kb
      obtain ⟨z, hz⟩ : ∃ z, (q + 5) % 5 = z := ⟨_, rfl⟩
      clear hrow ha
      rcases (show z = 3 ∨ z = 4 ∨ (z ≠ 3 ∧ z ≠ 4) by omega) with rfl | rfl | ⟨z3, z4⟩
      · go_wp2_with (go_at_call 11; fail)
        refine (Strobe b c g v _ HR.out.p).mono ?_
        rintro e w2 ⟨rfl, hA2, hT2⟩
        have HR2 : Hid (Mc W b 0 0 31 w2 ∧ w2.heap[p]? = wr.heap[p]?) := ⟨HR.out.turn hT2 hA2 (by decide), hT2.block _ (Array.getElem?_eq_some_iff.1 HPB.out.1).1 (by have := HPB.out.2; omega)⟩
        clear hA2 hT2
        go_wp2
        go_roundw
        case rel => exact ⟨k + 1, _, _, _, by omega, by go_num, HR2.out.1, HR2.out.2.trans HPB.out.1⟩
        case measure => simp [intOf]; omega
      · go_wp2_with (go_at_call 13; fail)
        refine (Set_any b c g v a.x a.y a.z _ HR.out.rt HR.out.p).mono ?_
        rintro e w2 ⟨c', g', v', rfl, hA2, hr2, hT2, _⟩
        have HR2 : Hid (Mc W b c' g' v' w2 ∧ w2.heap[p]? = wr.heap[p]?) := ⟨HR.out.turn hT2 hA2 hr2, hT2.block _ (Array.getElem?_eq_some_iff.1 HPB.out.1).1 (by have := HPB.out.2; omega)⟩
        clear hA2 hr2 hT2
        go_wp2
        go_roundw
        case rel => exact ⟨k + 1, _, _, _, by omega, by go_num, HR2.out.1, HR2.out.2.trans HPB.out.1⟩
        case measure => simp [intOf]; omega
      · have z3' : (z == 3) = false := beq_eq_false_iff_ne.2 z3
        have z4' : (z == 4) = false := beq_eq_false_iff_ne.2 z4
        clear z3 z4
        go_wp2
        go_region_held3 (fun w' => w'.cell? ⟨b0, off0 + k * 10 + 1, none⟩ = some (.int .i64 a.clock) ∧ w'.cell? ⟨b0, off0 + k * 10 + 2, none⟩ = some (.int .u8 (a.n0 : Int)) ∧ w'.cell? ⟨b0, off0 + k * 10 + 3, none⟩ = some (.int .u8 (a.n1 : Int)) ∧ w'.cell? ⟨b0, off0 + k * 10 + 4, none⟩ = some (.int .u8 (a.n2 : Int)) ∧ w'.cell? ⟨b0, off0 + k * 10 + 5, none⟩ = some (.int .u8 (a.n3 : Int)) ∧ w'.cell? ⟨b0, off0 + k * 10 + 6, none⟩ = some (.int .u8 (a.n4 : Int))) (first | exact ⟨by assumption, by assumption, by assumption, by assumption, by assumption, by assumption⟩ | go_keep) (first
          | (go_at_call 16; refine (Step b c g v a.n0 a.n1 a.n2 a.n3 a.n4 a.N a.clock _ rfl HO.out.2.2.1 HO.out.2.2.2.1 HO.out.2.2.2.2.1 HO.out.2.2.2.2.2.1 HO.out.2.2.2.2.2.2 (by first | exact HR.out.p | exact HR.out.p.draws _)).mono ?_; rintro e w2 ⟨rfl, hA2, hT2⟩; have HR2 : Hid (Mc W b (sC c g a.clock) (sG c g a.clock) (sV c g v a.clock a.N) w2 ∧ w2.heap[p]? = wr.heap[p]?) := (by first | exact ⟨HR.out.turn hT2 hA2 (right_step HR.out.rt _ _), hT2.block _ (Array.getElem?_eq_some_iff.1 HPB.out.1).1 (by have := HPB.out.2; omega)⟩ | exact ⟨(HR.out.draws _).turn hT2 hA2 (right_step HR.out.rt _ _), hT2.block _ (Array.getElem?_eq_some_iff.1 HPB.out.1).1 (by have := HPB.out.2; omega)⟩); obtain ⟨d0, d1, d2, d3, d4, d5, d6, d7, d8, d9⟩ := HC.out _ HR2.out.1.old; clear hA2 hT2))
        all_goals
          go_wp2
          go_roundw
          case rel => exact ⟨k + 1, _, _, _, by omega, by go_num, by first | exact HR2.out.1 | exact HR2.out.1.draws _, HR2.out.2.trans HPB.out.1⟩
          case measure => simp [intOf]; omega
    · have HPB2 := HPB
      have hkk : ¬ (k : Int) < (n : Int) := by omega
      clear HS
      go_wp2_with (go_at_call 18; fail)
      refine (Words b c g v _ HR.out.p).mono ?_
      rintro e w2 ⟨rfl, hB⟩
      have HR2 : Hid (Mc W b c g v w2) := HR.out.below hB
      have HP2 : Hid (w2.heap[p]? = some (.cells #[.int .u8 (n0 : Int), .int .u8 (n1 : Int), .int .u8 (n2 : Int), .int .u8 (n3 : Int), .int .u8 (n4 : Int)] 29 (0, 0)) ∧ p < b) := ⟨(hB.block p (Array.getElem?_eq_some_iff.1 HPB.out.1).1).trans HPB.out.1, HPB.out.2⟩
      clear hB HR HPB HPB2
      go_wp2_with (go_at_call 24; fail)
      have hB3 : Below w2.heap.size w2 (w2.alloc (.cells #[.int .i64 (c : Int), .int .i64 (g : Int), .int .i64 (v : Int)] 30)) := (Below.refl _ w2).alloc (Nat.le_refl _) _
      have HR3 : Hid (Mc W b c g v (w2.alloc (.cells #[.int .i64 (c : Int), .int .i64 (g : Int), .int .i64 (v : Int)] 30))) := HR2.out.below hB3
      have HU3 : Hid ((w2.alloc (.cells #[.int .i64 (c : Int), .int .i64 (g : Int), .int .i64 (v : Int)] 30)).heap[w2.heap.size]? = some (.cells #[.int .i64 (c : Int), .int .i64 (g : Int), .int .i64 (v : Int)] 30 (0, 0))) := heap_alloc_new w2 _
      have HP3 : Hid ((w2.alloc (.cells #[.int .i64 (c : Int), .int .i64 (g : Int), .int .i64 (v : Int)] 30)).heap[p]? = some (.cells #[.int .u8 (n0 : Int), .int .u8 (n1 : Int), .int .u8 (n2 : Int), .int .u8 (n3 : Int), .int .u8 (n4 : Int)] 29 (0, 0))) := (hB3.block p (Array.getElem?_eq_some_iff.1 HP2.out.1).1).trans HP2.out.1
      have HAP : Hid (p < b ∧ b < w2.heap.size) := ⟨HP2.out.2, HR2.out.p.lt⟩
      clear hB3 HR2 HP2
      generalize w2.alloc (.cells #[.int .i64 (c : Int), .int .i64 (g : Int), .int .i64 (v : Int)] 30) = w3 at *
      obtain ⟨u, hu⟩ : ∃ u, w2.heap.size = u := ⟨_, rfl⟩
      rw [hu] at HU3 HAP ⊢
      clear hu
      refine (Copy b c g v w3 HR3.out.p).mono ?_
      rintro e w4 ⟨b2, rfl, hb2, hA4, hB4⟩
      have hu3 : u < w3.heap.size := (Array.getElem?_eq_some_iff.1 HU3.out).1
      have HT4 : Hid (Mc W b c g v w4 ∧ MAt w4 b2 c g v ∧ w4.heap[u]? = w3.heap[u]? ∧ w4.heap[p]? = w3.heap[p]? ∧ u < b2 ∧ W.heap.size ≤ b2) := ⟨HR3.out.below hB4, hA4, hB4.block u hu3, hB4.block p (by have := HAP.out; omega), by omega, by have := HR3.out.lo; have := HAP.out; omega⟩
      clear hA4 hB4 hb2
      go_wp2_with (go_at_call 9; fail)
      refine (New w4).mono ?_
      rintro e w5 ⟨d, rfl, hd, hA5, hB5⟩
      have hb4 : b2 < w4.heap.size := HT4.out.2.1.lt
      have HT5 : Hid (Tl W b b2 d u p c g v c g v 16 0 0 n0 n1 n2 n3 n4 w5) := ⟨HT4.out.1.below hB5, HT4.out.2.1.below hB5, hA5, (hB5.block u (by have := HT4.out.2.2.2.2.1; omega)).trans (HT4.out.2.2.1.trans HU3.out), (hB5.block p (by have := HAP.out; have := HT4.out.2.2.2.2.1; omega)).trans (HT4.out.2.2.2.1.trans HP3.out), by have := HAP.out; have := HT4.out.2.2.2.2; omega, by have := HT4.out.2.2.2.2; omega⟩
      clear hA5 hB5 hd hb4 hu3 HT4 HU3 HP3 HR3 HAP
      have s0 : w5.cell? ⟨u, 0, none⟩ = some (.int .i64 (c : Int)) := cell_of_row _ _ _ _ _ _ HT5.out.wu
      have s1 : w5.cell? ⟨u, 1, none⟩ = some (.int .i64 (g : Int)) := cell_of_row _ _ _ _ _ _ HT5.out.wu
      have s2 : w5.cell? ⟨u, 2, none⟩ = some (.int .i64 (v : Int)) := cell_of_row _ _ _ _ _ _ HT5.out.wu
      go_wp2_with (go_at_call 13; fail)
      refine (Set_yes d 16 0 0 c g v _ HT5.out.m.rt HT5.out.dn).mono ?_
      rintro e w6 ⟨rfl, hA6, hT6⟩
      have HT6 : Hid (Tl W b b2 d u p c g v c g v c g v n0 n1 n2 n3 n4 w6) := HT5.out.turn3 hT6 hA6
      have x0 : w6.cell? ⟨p, 0, none⟩ = some (.int .u8 (n0 : Int)) := cell_of_row _ _ _ _ _ _ HT6.out.wp
      have x1 : w6.cell? ⟨p, 1, none⟩ = some (.int .u8 (n1 : Int)) := cell_of_row _ _ _ _ _ _ HT6.out.wp
      have x2 : w6.cell? ⟨p, 2, none⟩ = some (.int .u8 (n2 : Int)) := cell_of_row _ _ _ _ _ _ HT6.out.wp
      have x3 : w6.cell? ⟨p, 3, none⟩ = some (.int .u8 (n3 : Int)) := cell_of_row _ _ _ _ _ _ HT6.out.wp
      have x4 : w6.cell? ⟨p, 4, none⟩ = some (.int .u8 (n4 : Int)) := cell_of_row _ _ _ _ _ _ HT6.out.wp
      have hpl : p < w6.heap.size := HT6.out.plt
      clear hA6 hT6 HT5 s0 s1 s2
      obtain ⟨N, hNN⟩ : ∃ N, five n0 n1 n2 n3 n4 = N := ⟨_, rfl⟩
      have HNN : Hid (five n0 n1 n2 n3 n4 = N) := hNN
      clear hNN
      go_upto_region 16 with fail
      go_cut [13, 14] (fun s13 s14 wx => ∃ t1 t2 : Nat, s13 = .pointer (some ⟨t1, 0, none⟩) ∧ s14 = .pointer (some ⟨t2, 0, none⟩) ∧ BAt wx t1 (sT c g v clock N) ∧ BAt wx t2 (sT c g v clock N) ∧ Tl W b b2 d u p c g v (sC c g clock) (sG c g clock) (sV c g v clock N) (sC c g clock) (sG c g clock) (sV c g v clock N) n0 n1 n2 n3 n4 wx)
      case first =>
        go_region_held3 (fun w' => w'.cell? ⟨p, 0, none⟩ = some (.int .u8 (n0 : Int)) ∧ w'.cell? ⟨p, 1, none⟩ = some (.int .u8 (n1 : Int)) ∧ w'.cell? ⟨p, 2, none⟩ = some (.int .u8 (n2 : Int)) ∧ w'.cell? ⟨p, 3, none⟩ = some (.int .u8 (n3 : Int)) ∧ w'.cell? ⟨p, 4, none⟩ = some (.int .u8 (n4 : Int))) (first | (with_reducible exact ⟨by assumption, by assumption, by assumption, by assumption, by assumption⟩) | go_keep | (refine ⟨?_, ?_, ?_, ?_, ?_⟩ <;> (simp [World.cell?_setCell_other, *]; done))) (first
          | (go_at_call 16; (with_reducible refine (Step b2 c g v n0 n1 n2 n3 n4 N clock _ HNN.out HNL.out.1 HNL.out.2.1 HNL.out.2.2.1 HNL.out.2.2.2.1 HNL.out.2.2.2.2 (by first | exact HT6.out.cp | exact (HT6.out.below (by go_grown)).cp)).mono ?_); rintro e w7 ⟨rfl, hA7, hT7⟩; have HT7 : Hid (Tl W b b2 d u p c g v (sC c g clock) (sG c g clock) (sV c g v clock N) c g v n0 n1 n2 n3 n4 w7) := (by first | exact HT6.out.turn2 hT7 hA7 | exact (HT6.out.below (by go_grown)).turn2 hT7 hA7 : Tl W b b2 d u p c g v (sC c g clock) (sG c g clock) (sV c g v clock N) c g v n0 n1 n2 n3 n4 w7); have xx0 : w7.cell? ⟨p, 0, none⟩ = some (.int .u8 (n0 : Int)) := cell_of_row _ _ _ _ _ _ HT7.out.wp; have xx1 : w7.cell? ⟨p, 1, none⟩ = some (.int .u8 (n1 : Int)) := cell_of_row _ _ _ _ _ _ HT7.out.wp; have xx2 : w7.cell? ⟨p, 2, none⟩ = some (.int .u8 (n2 : Int)) := cell_of_row _ _ _ _ _ _ HT7.out.wp; have xx3 : w7.cell? ⟨p, 3, none⟩ = some (.int .u8 (n3 : Int)) := cell_of_row _ _ _ _ _ _ HT7.out.wp; have xx4 : w7.cell? ⟨p, 4, none⟩ = some (.int .u8 (n4 : Int)) := cell_of_row _ _ _ _ _ _ HT7.out.wp; have sz7 := hT7.size; (try simp at sz7); (first | (have sq : w6.heap.size + 1 + 1 ≤ w7.heap.size := (by with_reducible exact sz7); have y1 : BAt w7 w6.heap.size (fun _ => false) := ((two_new w6).1.kept rfl).kept (hT7.block _ (by first | (simp; done) | (simp; omega)) (by have := HT6.out.cp.lt; omega)); have ya0 := y1.c 0 (by decide); have ya1 := y1.c 1 (by decide); have ya2 := y1.c 2 (by decide); have ya3 := y1.c 3 (by decide); have ya4 := y1.c 4 (by decide); have yaz0 := y1.fz 0; have yaz1 := y1.fz 1; have yaz2 := y1.fz 2; have yaz3 := y1.fz 3; have yaz4 := y1.fz 4; have y2 : BAt w7 (w6.heap.size + 1) (fun _ => false) := ((two_new w6).2.1.kept rfl).kept (hT7.block _ (by first | (simp; done) | (simp; omega)) (by have := HT6.out.cp.lt; omega)); have yb0 := y2.c 0 (by decide); have yb1 := y2.c 1 (by decide); have yb2 := y2.c 2 (by decide); have yb3 := y2.c 3 (by decide); have yb4 := y2.c 4 (by decide); have ybz0 := y2.fz 0; have ybz1 := y2.fz 1; have ybz2 := y2.fz 2; have ybz3 := y2.fz 3; have ybz4 := y2.fz 4) | (have sq : w6.heap.size + 1 ≤ w7.heap.size := (by with_reducible exact sz7); have y1 : BAt w7 w6.heap.size (fun _ => false) := ((zero_at (W := w6) rfl).kept rfl).kept (hT7.block _ (by first | (simp; done) | (simp; omega)) (by have := HT6.out.cp.lt; omega)); have ya0 := y1.c 0 (by decide); have ya1 := y1.c 1 (by decide); have ya2 := y1.c 2 (by decide); have ya3 := y1.c 3 (by decide); have ya4 := y1.c 4 (by decide); have yaz0 := y1.fz 0; have yaz1 := y1.fz 1; have yaz2 := y1.fz 2; have yaz3 := y1.fz 3; have yaz4 := y1.fz 4) | skip); have hd6 : d < w6.heap.size := HT6.out.dn.lt; clear hA7 hT7; generalize w6.heap.size = T6 at *)
          | (go_at_call 16; (with_reducible refine (Step d c g v n0 n1 n2 n3 n4 N clock _ HNN.out HNL.out.1 HNL.out.2.1 HNL.out.2.2.1 HNL.out.2.2.2.1 HNL.out.2.2.2.2 (by first | exact HT7.out.dn | exact (HT7.out.below (by go_grown)).dn)).mono ?_); rintro e w8 ⟨rfl, hA8, hT8⟩; have HT8 : Hid (Tl W b b2 d u p c g v (sC c g clock) (sG c g clock) (sV c g v clock N) (sC c g clock) (sG c g clock) (sV c g v clock N) n0 n1 n2 n3 n4 w8) := (by first | exact HT7.out.turn3 hT8 hA8 | exact (HT7.out.below (by go_grown)).turn3 hT8 hA8 : Tl W b b2 d u p c g v (sC c g clock) (sG c g clock) (sV c g v clock N) (sC c g clock) (sG c g clock) (sV c g v clock N) n0 n1 n2 n3 n4 w8); have yy0 : w8.cell? ⟨p, 0, none⟩ = some (.int .u8 (n0 : Int)) := cell_of_row _ _ _ _ _ _ HT8.out.wp; have yy1 : w8.cell? ⟨p, 1, none⟩ = some (.int .u8 (n1 : Int)) := cell_of_row _ _ _ _ _ _ HT8.out.wp; have yy2 : w8.cell? ⟨p, 2, none⟩ = some (.int .u8 (n2 : Int)) := cell_of_row _ _ _ _ _ _ HT8.out.wp; have yy3 : w8.cell? ⟨p, 3, none⟩ = some (.int .u8 (n3 : Int)) := cell_of_row _ _ _ _ _ _ HT8.out.wp; have yy4 : w8.cell? ⟨p, 4, none⟩ = some (.int .u8 (n4 : Int)) := cell_of_row _ _ _ _ _ _ HT8.out.wp; have sz8 := hT8.size; (try simp at sz8); (first | (have sq := y1; have z1 : BAt w8 T6 (fun _ => false) := (by first | (have sq : w7.heap.size + 1 + 1 ≤ w8.heap.size := (by with_reducible exact sz8); exact (y1.below (by go_grown)).kept (hT8.block _ (by have := y1.lt; first | omega | (simp; omega)) (by omega))) | (have sq : w7.heap.size + 1 ≤ w8.heap.size := (by with_reducible exact sz8); exact (y1.below (by go_grown)).kept (hT8.block _ (by have := y1.lt; first | omega | (simp; omega)) (by omega))) | exact y1.kept (hT8.block _ (by have := y1.lt; first | omega | (simp; omega)) (by omega))); have za0 := z1.c 0 (by decide); have za1 := z1.c 1 (by decide); have za2 := z1.c 2 (by decide); have za3 := z1.c 3 (by decide); have za4 := z1.c 4 (by decide); have zaz0 := z1.fz 0; have zaz1 := z1.fz 1; have zaz2 := z1.fz 2; have zaz3 := z1.fz 3; have zaz4 := z1.fz 4; have l1 := y1.lt; have l2 := z1.lt; have ne1 : T6 ≠ w7.heap.size := (by omega); have n1s := Ne.symm ne1; have ne2 : T6 ≠ w8.heap.size := (by omega); have n2s := Ne.symm ne2) | skip); (first | (have sq := y2; have z2 : BAt w8 (T6 + 1) (fun _ => false) := (by first | (have sq : w7.heap.size + 1 + 1 ≤ w8.heap.size := (by with_reducible exact sz8); exact (y2.below (by go_grown)).kept (hT8.block _ (by have := y2.lt; first | omega | (simp; omega)) (by omega))) | (have sq : w7.heap.size + 1 ≤ w8.heap.size := (by with_reducible exact sz8); exact (y2.below (by go_grown)).kept (hT8.block _ (by have := y2.lt; first | omega | (simp; omega)) (by omega))) | exact y2.kept (hT8.block _ (by have := y2.lt; first | omega | (simp; omega)) (by omega))); have zb0 := z2.c 0 (by decide); have zb1 := z2.c 1 (by decide); have zb2 := z2.c 2 (by decide); have zb3 := z2.c 3 (by decide); have zb4 := z2.c 4 (by decide); have zbz0 := z2.fz 0; have zbz1 := z2.fz 1; have zbz2 := z2.fz 2; have zbz3 := z2.fz 3; have zbz4 := z2.fz 4; have l3 := z2.lt; have ne3 : T6 + 1 ≠ w8.heap.size := (by omega); have n3s := Ne.symm ne3) | skip); (first | (have sq : w7.heap.size + 1 + 1 ≤ w8.heap.size := (by with_reducible exact sz8); have z3 : BAt w8 w7.heap.size (fun _ => false) := ((two_new w7).1.kept rfl).kept (hT8.block _ (by first | (simp; done) | (simp; omega)) (by have := HT7.out.dn.lt; omega)); have zc0 := z3.c 0 (by decide); have zc1 := z3.c 1 (by decide); have zc2 := z3.c 2 (by decide); have zc3 := z3.c 3 (by decide); have zc4 := z3.c 4 (by decide); have zcz0 := z3.fz 0; have zcz1 := z3.fz 1; have zcz2 := z3.fz 2; have zcz3 := z3.fz 3; have zcz4 := z3.fz 4; have z4 : BAt w8 (w7.heap.size + 1) (fun _ => false) := ((two_new w7).2.1.kept rfl).kept (hT8.block _ (by first | (simp; done) | (simp; omega)) (by have := HT7.out.dn.lt; omega)); have zd0 := z4.c 0 (by decide); have zd1 := z4.c 1 (by decide); have zd2 := z4.c 2 (by decide); have zd3 := z4.c 3 (by decide); have zd4 := z4.c 4 (by decide); have zdz0 := z4.fz 0; have zdz1 := z4.fz 1; have zdz2 := z4.fz 2; have zdz3 := z4.fz 3; have zdz4 := z4.fz 4; have l4 := z3.lt; have l5 := z4.lt) | (have sq : w7.heap.size + 1 ≤ w8.heap.size := (by with_reducible exact sz8); have z3 : BAt w8 w7.heap.size (fun _ => false) := ((zero_at (W := w7) rfl).kept rfl).kept (hT8.block _ (by first | (simp; done) | (simp; omega)) (by have := HT7.out.dn.lt; omega)); have zc0 := z3.c 0 (by decide); have zc1 := z3.c 1 (by decide); have zc2 := z3.c 2 (by decide); have zc3 := z3.c 3 (by decide); have zc4 := z3.c 4 (by decide); have zcz0 := z3.fz 0; have zcz1 := z3.fz 1; have zcz2 := z3.fz 2; have zcz3 := z3.fz 3; have zcz4 := z3.fz 4; have l4 := z3.lt; have ne4 : w7.heap.size ≠ w8.heap.size := (by omega); have n4s := Ne.symm ne4) | skip); have hd8 : d < w8.heap.size := HT8.out.dn.lt; have hd7 : d < w7.heap.size := HT7.out.dn.lt; have pn8 : p ≠ w8.heap.size := (by have := HT8.out.plt; omega); have pn7 : p ≠ w7.heap.size := (by have := HT7.out.plt; omega); have pn6 : p ≠ T6 := (by omega); have pn8s := Ne.symm pn8; have pn7s := Ne.symm pn7; have pn6s := Ne.symm pn6; clear hA8 hT8; generalize w7.heap.size = T7 at *))
        all_goals
          go_wp2_with (fail)
          go_meet
          case rel =>
            exact ⟨_, _, rfl, rfl, (by
            repeat (first
              | (with_reducible assumption)
              | (with_reducible refine new_at ?_; first | (with_reducible rfl) | (simp; done))
              | (with_reducible refine zero_at ?_; first | (with_reducible rfl) | (simp; done))
              | (with_reducible refine p5_at (f0 := fun _ => false) ?_ _)
              | (with_reducible refine p5_other ?_ (by first | assumption | omega | (simp; done)) _ _ _ _ _)
              | (with_reducible refine BAt.alloc ?_ _)
              | (with_reducible refine BAt.draws ?_ _))), (by
            repeat (first
              | (with_reducible assumption)
              | (with_reducible refine new_at ?_; first | (with_reducible rfl) | (simp; done))
              | (with_reducible refine zero_at ?_; first | (with_reducible rfl) | (simp; done))
              | (with_reducible refine p5_at (f0 := fun _ => false) ?_ _)
              | (with_reducible refine p5_other ?_ (by first | assumption | omega | (simp; done)) _ _ _ _ _)
              | (with_reducible refine BAt.alloc ?_ _)
              | (with_reducible refine BAt.draws ?_ _))), (by
            repeat (first
              | (with_reducible exact HT8.out)
              | (with_reducible refine Tl.p5 ?_ (by omega) _ _ _ _ _)
              | (with_reducible refine Tl.alloc ?_ _)
              | (with_reducible refine Tl.draws ?_ _)))⟩
      case rest =>
        obtain ⟨t1, t2, rfl, rfl, hB1, hB2, hT⟩ := hcut
        have h3 := words_self
        have h5 := bools_self
        generalize sC c g clock = c' at *
        generalize sG c g clock = g' at *
        generalize sV c g v clock N = v' at *
        generalize sT c g v clock N = B at *
        have HX : Hid (Al W b b2 d u p c g v c' g' v' n0 n1 n2 n3 n4 t1 t2 B wc) := ⟨hT, hB1, hB2⟩
        have xa0 : wc.cell? ⟨t1, 0, none⟩ = some (.bool (B 0)) := HX.out.x.c 0 (by decide)
        have xa1 : wc.cell? ⟨t1, 1, none⟩ = some (.bool (B 1)) := HX.out.x.c 1 (by decide)
        have xa2 : wc.cell? ⟨t1, 2, none⟩ = some (.bool (B 2)) := HX.out.x.c 2 (by decide)
        have xa3 : wc.cell? ⟨t1, 3, none⟩ = some (.bool (B 3)) := HX.out.x.c 3 (by decide)
        have xa4 : wc.cell? ⟨t1, 4, none⟩ = some (.bool (B 4)) := HX.out.x.c 4 (by decide)
        have xb0 : wc.cell? ⟨t2, 0, none⟩ = some (.bool (B 0)) := HX.out.y.c 0 (by decide)
        have xb1 : wc.cell? ⟨t2, 1, none⟩ = some (.bool (B 1)) := HX.out.y.c 1 (by decide)
        have xb2 : wc.cell? ⟨t2, 2, none⟩ = some (.bool (B 2)) := HX.out.y.c 2 (by decide)
        have xb3 : wc.cell? ⟨t2, 3, none⟩ = some (.bool (B 3)) := HX.out.y.c 3 (by decide)
        have xb4 : wc.cell? ⟨t2, 4, none⟩ = some (.bool (B 4)) := HX.out.y.c 4 (by decide)
        have xu0 : wc.cell? ⟨u, 0, none⟩ = some (.int .i64 (c : Int)) := cell_of_row _ _ _ _ _ _ HX.out.t.wu
        have xu1 : wc.cell? ⟨u, 1, none⟩ = some (.int .i64 (g : Int)) := cell_of_row _ _ _ _ _ _ HX.out.t.wu
        have xu2 : wc.cell? ⟨u, 2, none⟩ = some (.int .i64 (v : Int)) := cell_of_row _ _ _ _ _ _ HX.out.t.wu
        clear hB1 hB2 hT
        go_wp2
        go_region_held3 (fun w' => w'.cell? ⟨t1, 0, none⟩ = some (.bool (B 0)) ∧ w'.cell? ⟨t1, 1, none⟩ = some (.bool (B 1)) ∧ w'.cell? ⟨t1, 2, none⟩ = some (.bool (B 2)) ∧ w'.cell? ⟨t1, 3, none⟩ = some (.bool (B 3)) ∧ w'.cell? ⟨t1, 4, none⟩ = some (.bool (B 4)) ∧ w'.cell? ⟨t2, 0, none⟩ = some (.bool (B 0)) ∧ w'.cell? ⟨t2, 1, none⟩ = some (.bool (B 1)) ∧ w'.cell? ⟨t2, 2, none⟩ = some (.bool (B 2)) ∧ w'.cell? ⟨t2, 3, none⟩ = some (.bool (B 3)) ∧ w'.cell? ⟨t2, 4, none⟩ = some (.bool (B 4)) ∧ w'.cell? ⟨u, 0, none⟩ = some (.int .i64 (c : Int)) ∧ w'.cell? ⟨u, 1, none⟩ = some (.int .i64 (g : Int)) ∧ w'.cell? ⟨u, 2, none⟩ = some (.int .i64 (v : Int))) (first | (with_reducible exact ⟨by assumption, by assumption, by assumption, by assumption, by assumption, by assumption, by assumption, by assumption, by assumption, by assumption, by assumption, by assumption, by assumption⟩) | go_keep) (first
          | (go_at_call 18; (with_reducible refine (Words b2 c' g' v' _ (by first | exact HX.out.t.cp | exact (HX.out.below (by go_grown)).t.cp)).mono ?_); rintro e w9 ⟨rfl, hB'⟩; have H9 : Hid (Al W b b2 d u p c g v c' g' v' n0 n1 n2 n3 n4 t1 t2 B w9) := (by first | exact HX.out.below hB' | exact (HX.out.below (by go_grown)).below hB'); have fw9a0 : w9.cell? ⟨t1, 0, none⟩ = some (.bool (B 0)) := H9.out.x.c 0 (by decide); have fw9a1 : w9.cell? ⟨t1, 1, none⟩ = some (.bool (B 1)) := H9.out.x.c 1 (by decide); have fw9a2 : w9.cell? ⟨t1, 2, none⟩ = some (.bool (B 2)) := H9.out.x.c 2 (by decide); have fw9a3 : w9.cell? ⟨t1, 3, none⟩ = some (.bool (B 3)) := H9.out.x.c 3 (by decide); have fw9a4 : w9.cell? ⟨t1, 4, none⟩ = some (.bool (B 4)) := H9.out.x.c 4 (by decide); have fw9b0 : w9.cell? ⟨t2, 0, none⟩ = some (.bool (B 0)) := H9.out.y.c 0 (by decide); have fw9b1 : w9.cell? ⟨t2, 1, none⟩ = some (.bool (B 1)) := H9.out.y.c 1 (by decide); have fw9b2 : w9.cell? ⟨t2, 2, none⟩ = some (.bool (B 2)) := H9.out.y.c 2 (by decide); have fw9b3 : w9.cell? ⟨t2, 3, none⟩ = some (.bool (B 3)) := H9.out.y.c 3 (by decide); have fw9b4 : w9.cell? ⟨t2, 4, none⟩ = some (.bool (B 4)) := H9.out.y.c 4 (by decide); have fw9u0 : w9.cell? ⟨u, 0, none⟩ = some (.int .i64 (c : Int)) := cell_of_row _ _ _ _ _ _ H9.out.t.wu; have fw9u1 : w9.cell? ⟨u, 1, none⟩ = some (.int .i64 (g : Int)) := cell_of_row _ _ _ _ _ _ H9.out.t.wu; have fw9u2 : w9.cell? ⟨u, 2, none⟩ = some (.int .i64 (v : Int)) := cell_of_row _ _ _ _ _ _ H9.out.t.wu; clear hB')
          | (go_at_call 18; (with_reducible refine (Words d c' g' v' _ (by first | exact H9.out.t.dn | exact (H9.out.below (by go_grown)).t.dn)).mono ?_); rintro e wA ⟨rfl, hB'⟩; have HA2 : Hid (Al W b b2 d u p c g v c' g' v' n0 n1 n2 n3 n4 t1 t2 B wA) := (by first | exact H9.out.below hB' | exact (H9.out.below (by go_grown)).below hB'); have fwAa0 : wA.cell? ⟨t1, 0, none⟩ = some (.bool (B 0)) := HA2.out.x.c 0 (by decide); have fwAa1 : wA.cell? ⟨t1, 1, none⟩ = some (.bool (B 1)) := HA2.out.x.c 1 (by decide); have fwAa2 : wA.cell? ⟨t1, 2, none⟩ = some (.bool (B 2)) := HA2.out.x.c 2 (by decide); have fwAa3 : wA.cell? ⟨t1, 3, none⟩ = some (.bool (B 3)) := HA2.out.x.c 3 (by decide); have fwAa4 : wA.cell? ⟨t1, 4, none⟩ = some (.bool (B 4)) := HA2.out.x.c 4 (by decide); have fwAb0 : wA.cell? ⟨t2, 0, none⟩ = some (.bool (B 0)) := HA2.out.y.c 0 (by decide); have fwAb1 : wA.cell? ⟨t2, 1, none⟩ = some (.bool (B 1)) := HA2.out.y.c 1 (by decide); have fwAb2 : wA.cell? ⟨t2, 2, none⟩ = some (.bool (B 2)) := HA2.out.y.c 2 (by decide); have fwAb3 : wA.cell? ⟨t2, 3, none⟩ = some (.bool (B 3)) := HA2.out.y.c 3 (by decide); have fwAb4 : wA.cell? ⟨t2, 4, none⟩ = some (.bool (B 4)) := HA2.out.y.c 4 (by decide); have fwAu0 : wA.cell? ⟨u, 0, none⟩ = some (.int .i64 (c : Int)) := cell_of_row _ _ _ _ _ _ HA2.out.t.wu; have fwAu1 : wA.cell? ⟨u, 1, none⟩ = some (.int .i64 (g : Int)) := cell_of_row _ _ _ _ _ _ HA2.out.t.wu; have fwAu2 : wA.cell? ⟨u, 2, none⟩ = some (.int .i64 (v : Int)) := cell_of_row _ _ _ _ _ _ HA2.out.t.wu; clear hB')
          | (go_at_call 18; (with_reducible refine (Words b c g v _ (by first | exact HA2.out.t.m.p | exact (HA2.out.below (by go_grown)).t.m.p)).mono ?_); rintro e wB ⟨rfl, hB'⟩; have HB2 : Hid (Al W b b2 d u p c g v c' g' v' n0 n1 n2 n3 n4 t1 t2 B wB) := (by first | exact HA2.out.below hB' | exact (HA2.out.below (by go_grown)).below hB'); have fwBa0 : wB.cell? ⟨t1, 0, none⟩ = some (.bool (B 0)) := HB2.out.x.c 0 (by decide); have fwBa1 : wB.cell? ⟨t1, 1, none⟩ = some (.bool (B 1)) := HB2.out.x.c 1 (by decide); have fwBa2 : wB.cell? ⟨t1, 2, none⟩ = some (.bool (B 2)) := HB2.out.x.c 2 (by decide); have fwBa3 : wB.cell? ⟨t1, 3, none⟩ = some (.bool (B 3)) := HB2.out.x.c 3 (by decide); have fwBa4 : wB.cell? ⟨t1, 4, none⟩ = some (.bool (B 4)) := HB2.out.x.c 4 (by decide); have fwBb0 : wB.cell? ⟨t2, 0, none⟩ = some (.bool (B 0)) := HB2.out.y.c 0 (by decide); have fwBb1 : wB.cell? ⟨t2, 1, none⟩ = some (.bool (B 1)) := HB2.out.y.c 1 (by decide); have fwBb2 : wB.cell? ⟨t2, 2, none⟩ = some (.bool (B 2)) := HB2.out.y.c 2 (by decide); have fwBb3 : wB.cell? ⟨t2, 3, none⟩ = some (.bool (B 3)) := HB2.out.y.c 3 (by decide); have fwBb4 : wB.cell? ⟨t2, 4, none⟩ = some (.bool (B 4)) := HB2.out.y.c 4 (by decide); have fwBu0 : wB.cell? ⟨u, 0, none⟩ = some (.int .i64 (c : Int)) := cell_of_row _ _ _ _ _ _ HB2.out.t.wu; have fwBu1 : wB.cell? ⟨u, 1, none⟩ = some (.int .i64 (g : Int)) := cell_of_row _ _ _ _ _ _ HB2.out.t.wu; have fwBu2 : wB.cell? ⟨u, 2, none⟩ = some (.int .i64 (v : Int)) := cell_of_row _ _ _ _ _ _ HB2.out.t.wu; clear hB')
          | (go_at_call 21; refine (awake17 _).mono ?_; rintro e wD ⟨rfl, hB'⟩; have HD2 : Hid (Al W b b2 d u p c g v c' g' v' n0 n1 n2 n3 n4 t1 t2 B wD) := (by first | exact HB2.out.below hB' | exact (HB2.out.below (by go_grown)).below hB'); have fDa0 : wD.cell? ⟨t1, 0, none⟩ = some (.bool (B 0)) := HD2.out.x.c 0 (by decide); have fDa1 : wD.cell? ⟨t1, 1, none⟩ = some (.bool (B 1)) := HD2.out.x.c 1 (by decide); have fDa2 : wD.cell? ⟨t1, 2, none⟩ = some (.bool (B 2)) := HD2.out.x.c 2 (by decide); have fDa3 : wD.cell? ⟨t1, 3, none⟩ = some (.bool (B 3)) := HD2.out.x.c 3 (by decide); have fDa4 : wD.cell? ⟨t1, 4, none⟩ = some (.bool (B 4)) := HD2.out.x.c 4 (by decide); have fDb0 : wD.cell? ⟨t2, 0, none⟩ = some (.bool (B 0)) := HD2.out.y.c 0 (by decide); have fDb1 : wD.cell? ⟨t2, 1, none⟩ = some (.bool (B 1)) := HD2.out.y.c 1 (by decide); have fDb2 : wD.cell? ⟨t2, 2, none⟩ = some (.bool (B 2)) := HD2.out.y.c 2 (by decide); have fDb3 : wD.cell? ⟨t2, 3, none⟩ = some (.bool (B 3)) := HD2.out.y.c 3 (by decide); have fDb4 : wD.cell? ⟨t2, 4, none⟩ = some (.bool (B 4)) := HD2.out.y.c 4 (by decide); have fDu0 : wD.cell? ⟨u, 0, none⟩ = some (.int .i64 (c : Int)) := cell_of_row _ _ _ _ _ _ HD2.out.t.wu; have fDu1 : wD.cell? ⟨u, 1, none⟩ = some (.int .i64 (g : Int)) := cell_of_row _ _ _ _ _ _ HD2.out.t.wu; have fDu2 : wD.cell? ⟨u, 2, none⟩ = some (.int .i64 (v : Int)) := cell_of_row _ _ _ _ _ _ HD2.out.t.wu; clear hB'))
        all_goals go_wp2
        all_goals go_returns
        all_goals exact ⟨rfl, by first | exact HD2.out.t.m.old | exact below_drewN HD2.out.t.m.old _⟩

end Go.Proofs.Ytkondnlilkpdoaa.motionCopies
