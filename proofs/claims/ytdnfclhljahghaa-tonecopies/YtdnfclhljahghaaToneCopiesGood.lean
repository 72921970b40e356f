/- ToneCopies: walked. (Written by wip/gen/gen_tone9.py.) -/
import Derived.Test.YtdnfclhljahghaaTone9
import Derived.Test.YtdnfclhljahghaaArrEq
set_option linter.unusedVariables false
namespace Go.Proofs.Ytdnfclhljahghaa.toneCopies
open Go.RowKit To

theorem words_self (p : Vo) (w : World) : (Op.equalIn 10000 30 (.agg p.w.toArray) (.agg p.w.toArray)).run Try.prog w = .ok true w :=
  equal_self (n := 8) (e := 3) (k' := .i64) (by kernel_rfl) (by kernel_rfl) (by kernel_rfl) (by kernel_rfl) _ (fun j hj => by
    have : j < 8 := hj
    rcases (show j = 0 ∨ j = 1 ∨ j = 2 ∨ j = 3 ∨ j = 4 ∨ j = 5 ∨ j = 6 ∨ j = 7 by omega) with rfl | rfl | rfl | rfl | rfl | rfl | rfl | rfl <;> exact ⟨_, _, rfl⟩) w

theorem _root_.Go.Proofs.Ytdnfclhljahghaa.To.Vb.keep {W w w' : World} {b c : Nat} {p : Vo} (h : Vb W b p w) (ht : Turn c w w') (hn : b ≠ c) (hB : Below W.heap.size W w') : Vb W b p w' := ⟨h.a.turn ht hn, hB, h.hb, h.k⟩

/-- The voice, its two copies, the words that it had. -/
structure Tri (W : World) (b c d X : Nat) (p q : Vo) (w : World) : Prop where
  b : Vb W b p w
  c : Vb W c q w
  d : Vb W d q w
  x : Row w X p.w
theorem Tri.below {W w w' : World} {b c d X : Nat} {p q : Vo} (h : Tri W b c d X p q w) (hB : Below w.heap.size w w') : Hid (Tri W b c d X p q w') := ⟨h.b.below hB, h.c.below hB, h.d.below hB, h.x.below (by simp [Vo.w]) hB⟩
structure Three (W : World) (b c d : Nat) (p q : Vo) (w : World) : Prop where
  b : Vb W b p w
  c : Vb W c q w
  d : Vb W d q w

set_option maxRecDepth 100000 in
set_option maxHeartbeats 8000000 in
theorem good (A : List To.Act) (ao : Option Addr) (cap b0 off0 : Nat) (T : Nat) (W : World) (hA : ∀ a ∈ A, a.ok) (hl : A.length ≤ 10) (hS : SeenX W ao cap b0 off0 11 (A.map To.Act.row)) (hT : T < 256) :
    Calls Try.prog 6 #[.slice ao A.length cap, .int .u8 (T : Int)] W fun e w' => e = .returned (.bool true) ∧ Below W.heap.size W w' := by
  have HA : Hid (∀ a ∈ A, a.ok) := hA
  have HS : Hid (SeenX W ao cap b0 off0 11 (A.map To.Act.row)) := hS
  have hcap := hS.max
  have hle := hS.le
  rw [List.length_map] at hle
  clear hA hS
  generalize hn : A.length = n at *
  have HN : Hid (A.length = n) := hn
  clear hn
  go_enter Try.func6, Try.ntmps6
  go_wp2_with (go_at_call 12; fail)
  refine (NewB W).mono ?_
  rintro e w1 ⟨b, rfl, h⟩
  have H1 : Hid (Vb W b Vo.new w1) := h
  clear h
  go_wp2_with (fail)
  go_loopw [6] (fun v wr => ∃ (k : Nat) (p : Vo), k ≤ n ∧ v = .int .i64 (k : Int) ∧ Vb W b p wr) (fun v _ => n - (intOf v).toNat)
  case atStart => exact ⟨0, Vo.new, by omega, rfl, H1.out⟩
  case round =>
    obtain ⟨k, p, hk, rfl, hR⟩ := hrel
    have HR : Hid (Vb W b p wr) := hR
    clear hR H1
    by_cases hkn : k < n
    · skip
      obtain ⟨a, ha⟩ : ∃ a, A[k]? = some a := ⟨_, List.getElem?_eq_getElem (by rw [HN.out]; exact hkn)⟩
      have HK : Hid a.ok := HA.out a (List.mem_of_getElem? ha)
      have HC : Hid (∀ w', Below W.heap.size W w' → Cells w' b0 (off0 + k * 11) a) := fun w' hw' => (cells_of (HS.out.below hw' (Nat.le_refl _)) ha).2.2
      obtain ⟨hao, hb0, -⟩ := cells_of HS.out ha
      subst hao
      obtain ⟨q, hq⟩ : ∃ q, a.kind.tmod 7 = q := ⟨_, rfl⟩
      obtain ⟨q1, q2⟩ := kind7 hq
      have k0 : (0 : Int) ≤ (k : Int) := by omega
      have k1 : (k : Int) < (n : Int) := by omega
      have ck := (HC.out _ HR.out.old).k
      clear ha
      obtain ⟨z, hz⟩ : ∃ z, (q + 7) % 7 = z := ⟨_, rfl⟩
      have HZ : Hid (0 ≤ z ∧ z < 7) := (show 0 ≤ z ∧ z < 7 by omega)
      have hzt : (q + 7).tmod 7 = z := by rw [Int.tmod_eq_emod_of_nonneg (by omega)]; exact hz
      have e7 : IntKind.i64.wrap (q + 7) = q + 7 := IntWalk.i64_in _ (by omega)
      rcases (show z = 3 ∨ z = 4 ∨ z = 6 ∨ (z ≠ 3 ∧ z ≠ 4 ∧ z = z ∧ z ≠ 6) by omega) with hc | hc | hc | hc
      · obtain rfl : z = 3 := hc
        clear HZ q1 q2
        have cn := (HC.out _ HR.out.old).n
        have hn2 := HK.out.n
        have en : IntKind.i64.wrap (a.n : Int) = a.n := IntWalk.i64_in _ (by omega)
        go_wp2_with (go_at_call 19; fail)
        refine (ControlB a.n HK.out.n HR.out).mono ?_
        rintro e w3 ⟨rfl, h⟩
        have H3 : Hid (Vb W b { p with c := a.n % 16 } w3) := h
        have hw3 : Below W.heap.size W w3 := h.old
        clear h HR ck cn
        go_wp2_with (fail)
        go_roundw
        case rel => exact ⟨k + 1, { p with c := a.n % 16 }, by omega, by go_num, H3.out⟩
        case measure => simp [intOf]; omega
      · obtain rfl : z = 4 := hc
        clear HZ q1 q2
        have cn := (HC.out _ HR.out.old).n
        have hn2 := HK.out.n
        have en : IntKind.i64.wrap (a.n : Int) = a.n := IntWalk.i64_in _ (by omega)
        go_wp2_with (go_at_call 20; fail)
        refine (RateB a.n HK.out.n HR.out).mono ?_
        rintro e w3 ⟨rfl, h⟩
        have H3 : Hid (Vb W b { p with r := a.n % 32 } w3) := h
        have hw3 : Below W.heap.size W w3 := h.old
        clear h HR ck cn
        go_wp2_with (fail)
        go_roundw
        case rel => exact ⟨k + 1, { p with r := a.n % 32 }, by omega, by go_num, H3.out⟩
        case measure => simp [intOf]; omega
      · obtain rfl : z = 6 := hc
        clear HZ q1 q2
        cases hr : a.right
        · skip
          have cx0 := (HC.out _ HR.out.old).x0
          have cx1 := (HC.out _ HR.out.old).x1
          have cx2 := (HC.out _ HR.out.old).x2
          have cx3 := (HC.out _ HR.out.old).x3
          have cx4 := (HC.out _ HR.out.old).x4
          have cx5 := (HC.out _ HR.out.old).x5
          have cx6 := (HC.out _ HR.out.old).x6
          have cx7 := (HC.out _ HR.out.old).x7
          have HR0 : Hid (a.right = false) := hr
          clear hr
          go_wp2_with (go_at_call 23; fail)
          refine (SetB_no a.x0 a.x1 a.x2 a.x3 a.x4 a.x5 a.x6 a.x7 HR0.out HR.out).mono ?_
          rintro e w3 ⟨rfl, h⟩
          have H3 : Hid (Vb W b p w3) := h
          have hw3 : Below W.heap.size W w3 := h.old
          clear h HR ck cx0 cx1 cx2 cx3 cx4 cx5 cx6 cx7
          go_wp2_with (fail)
          go_roundw
          case rel => exact ⟨k + 1, p, by omega, by go_num, H3.out⟩
          case measure => simp [intOf]; omega
        · skip
          have cx0 := (HC.out _ HR.out.old).x0
          have cx1 := (HC.out _ HR.out.old).x1
          have cx2 := (HC.out _ HR.out.old).x2
          have cx3 := (HC.out _ HR.out.old).x3
          have cx4 := (HC.out _ HR.out.old).x4
          have cx5 := (HC.out _ HR.out.old).x5
          have cx6 := (HC.out _ HR.out.old).x6
          have cx7 := (HC.out _ HR.out.old).x7
          have HR0 : Hid (a.right = true) := hr
          clear hr
          go_wp2_with (go_at_call 23; fail)
          refine (SetB_yes a.x0 a.x1 a.x2 a.x3 a.x4 a.x5 a.x6 a.x7 HR0.out HR.out).mono ?_
          rintro e w3 ⟨rfl, h⟩
          have H3 : Hid (Vb W b (ofV a.x0 a.x1 a.x2 a.x3 a.x4 a.x5 a.x6 a.x7) w3) := h
          have hw3 : Below W.heap.size W w3 := h.old
          clear h HR ck cx0 cx1 cx2 cx3 cx4 cx5 cx6 cx7
          generalize ofV a.x0 a.x1 a.x2 a.x3 a.x4 a.x5 a.x6 a.x7 = q0 at H3 ⊢
          go_wp2_with (fail)
          go_roundw
          case rel => exact ⟨k + 1, q0, by omega, by go_num, H3.out⟩
          case measure => simp [intOf]; omega
      · have z3 : (z == 3) = false := beq_eq_false_iff_ne.2 hc.1
        have z4 : (z == 4) = false := beq_eq_false_iff_ne.2 hc.2.1
        have z6 : (z == 6) = false := beq_eq_false_iff_ne.2 hc.2.2.2
        clear hc HZ q1 q2
        have ct := (HC.out _ HR.out.old).t
        obtain ⟨N, hN⟩ : ∃ N : Nat, (a.t : Int) % 700 = (N : Int) := ⟨a.t % 700, by omega⟩
        have ht2 := HK.out.t
        have et : IntKind.i64.wrap (a.t : Int) = a.t := IntWalk.i64_in _ (by omega)
        have HN7 : Hid (N < 700) := (show N < 700 by omega)
        go_wp2_with (go_at_call 22; fail)
        refine (ticked N (by have := HN7.out; omega) HR.out).mono ?_
        rintro e w3 ⟨rfl, h, -⟩
        have H3 : Hid (Vb W b (tk N p) w3) := h
        have hw3 : Below W.heap.size W w3 := h.old
        clear h HR ck ct
        go_wp2_with (fail)
        go_roundw
        case rel => exact ⟨k + 1, tk N p, by omega, by go_num, H3.out⟩
        case measure => simp [intOf]; omega
    · have hkn' : k = n := by omega
      subst hkn'
      have eT : IntKind.i64.wrap (T : Int) = T := IntWalk.i64_in _ (by omega)
      obtain ⟨q0, hq0⟩ : ∃ q0, tk T p = q0 := ⟨_, rfl⟩
      go_wp2_with (go_at_call 14; fail)
      refine (WordsB HR.out).mono ?_
      rintro e w3 ⟨rfl, -, h⟩
      unfold Vo.w
      have H3 : Hid (Vb W b p w3) := h
      clear h HR
      go_wp2_with (go_at_call 24; fail)
      generalize hw4 : w3.alloc _ = w4
      have H4 : Hid (Vb W b p w4 ∧ Row w4 w3.heap.size p.w ∧ b < w3.heap.size ∧ w3.heap.size < w4.heap.size) := by rw [← hw4]; exact ⟨H3.out.alloc _, Row.newL w3 p.w _, H3.out.a.lt, by simp⟩
      clear hw4 H3
      generalize w3.heap.size = X at H4 ⊢
      refine (Copy b p _ H4.out.1.a).mono ?_
      rintro e w5 ⟨c, rfl, hc1, hc2, hB⟩
      have H5 : Hid (Vb W b p w5 ∧ Row w5 X p.w ∧ Vb W c p w5 ∧ b ≠ c ∧ X ≠ c ∧ b ≠ X) := ⟨H4.out.1.below hB, H4.out.2.1.below (by simp [Vo.w]) hB, ⟨hc2, (H4.out.1.below hB).old, by have := H4.out.1.old.size; omega, H4.out.1.k⟩, by have := H4.out.1.a.lt; omega, by have := H4.out.2.2.2; omega, by have := H4.out.2.2.1; omega⟩
      clear hc1 hc2 hB H4
      go_wp2_with (go_at_call 24; fail)
      refine (Copy b p _ H5.out.1.a).mono ?_
      rintro e w6 ⟨d, rfl, hc1, hc2, hB⟩
      have H6 : Hid (Three W b c d p p w6 ∧ Row w6 X p.w ∧ (b ≠ c ∧ X ≠ c ∧ b ≠ d ∧ X ≠ d ∧ c ≠ d)) := ⟨⟨H5.out.1.below hB, H5.out.2.2.1.below hB, ⟨hc2, (H5.out.1.below hB).old, by have := H5.out.1.old.size; omega, H5.out.1.k⟩⟩, H5.out.2.1.below (by simp [Vo.w]) hB, H5.out.2.2.2.1, H5.out.2.2.2.2.1, by have := H5.out.1.a.lt; omega, by have := H5.out.2.1.lt (by simp [Vo.w]); omega, by have := H5.out.2.2.1.a.lt; omega⟩
      clear hc1 hc2 hB H5
      go_wp2_with (go_at_call 22; fail)
      refine (ticked T (by omega) H6.out.1.c).mono ?_
      rintro e w7 ⟨rfl, h7, t7⟩
      have H7 : Hid (Vb W b p w7 ∧ Vb W c (tk T p) w7 ∧ Vb W d p w7 ∧ Row w7 X p.w) := ⟨H6.out.1.b.keep t7 H6.out.2.2.1 h7.old, h7, H6.out.1.d.keep t7 (Ne.symm H6.out.2.2.2.2.2.2) h7.old, H6.out.2.1.turn (by simp [Vo.w]) t7 H6.out.2.2.2.1⟩
      clear h7 t7
      go_wp2_with (go_at_call 22; fail)
      refine (ticked T (by omega) H7.out.2.2.1).mono ?_
      rintro e w8 ⟨rfl, h8, t8⟩
      have H8 : Hid (Vb W b p w8 ∧ Vb W c (tk T p) w8 ∧ Vb W d (tk T p) w8 ∧ Row w8 X p.w) := ⟨H7.out.1.keep t8 H6.out.2.2.2.2.1 h8.old, H7.out.2.1.keep t8 H6.out.2.2.2.2.2.2 h8.old, h8, H7.out.2.2.2.turn (by simp [Vo.w]) t8 H6.out.2.2.2.2.2.1⟩
      rw [hq0] at H8
      have H9 : Hid (Tri W b c d X p q0 w8) := ⟨H8.out.1, H8.out.2.1, H8.out.2.2.1, H8.out.2.2.2⟩
      have hne := H6.out.2.2
      clear h8 t8 H7 H6 H8 hq0
      have y0 := H9.out.x.at_ 0 _ rfl
      have y1 := H9.out.x.at_ 1 _ rfl
      have y2 := H9.out.x.at_ 2 _ rfl
      have y3 := H9.out.x.at_ 3 _ rfl
      have y4 := H9.out.x.at_ 4 _ rfl
      have y5 := H9.out.x.at_ 5 _ rfl
      have y6 := H9.out.x.at_ 6 _ rfl
      have y7 := H9.out.x.at_ 7 _ rfl
      have eq1 := words_self q0
      have eq2 := words_self p
      unfold Vo.w at eq1 eq2
      go_wp2_with (fail)
      go_region_with (first
        | (go_at_call_of 14 (Value.pointer (some ⟨c, 0, none⟩)); refine (Words c q0 _ (by first | exact H9.out.c.a | exact H9.out.c.a.drew)).mono ?_; rintro e wy ⟨rfl, hB⟩; unfold Vo.w; have H9 := H9.out.below (w' := wy) ⟨hB.os, hB.tape, hB.output, hB.size, hB.block⟩; clear hB; have y0 := H9.out.x.at_ 0 _ rfl; have y1 := H9.out.x.at_ 1 _ rfl; have y2 := H9.out.x.at_ 2 _ rfl; have y3 := H9.out.x.at_ 3 _ rfl; have y4 := H9.out.x.at_ 4 _ rfl; have y5 := H9.out.x.at_ 5 _ rfl; have y6 := H9.out.x.at_ 6 _ rfl; have y7 := H9.out.x.at_ 7 _ rfl)
        | (go_at_call_of 14 (Value.pointer (some ⟨d, 0, none⟩)); refine (Words d q0 _ (by first | exact H9.out.d.a | exact H9.out.d.a.drew)).mono ?_; rintro e wy ⟨rfl, hB⟩; unfold Vo.w; have H9 := H9.out.below (w' := wy) ⟨hB.os, hB.tape, hB.output, hB.size, hB.block⟩; clear hB; have y0 := H9.out.x.at_ 0 _ rfl; have y1 := H9.out.x.at_ 1 _ rfl; have y2 := H9.out.x.at_ 2 _ rfl; have y3 := H9.out.x.at_ 3 _ rfl; have y4 := H9.out.x.at_ 4 _ rfl; have y5 := H9.out.x.at_ 5 _ rfl; have y6 := H9.out.x.at_ 6 _ rfl; have y7 := H9.out.x.at_ 7 _ rfl)
        | (go_at_call_of 14 (Value.pointer (some ⟨b, 0, none⟩)); refine (Words b p _ (by first | exact H9.out.b.a | exact H9.out.b.a.drew)).mono ?_; rintro e wy ⟨rfl, hB⟩; unfold Vo.w; have H9 := H9.out.below (w' := wy) ⟨hB.os, hB.tape, hB.output, hB.size, hB.block⟩; clear hB; have y0 := H9.out.x.at_ 0 _ rfl; have y1 := H9.out.x.at_ 1 _ rfl; have y2 := H9.out.x.at_ 2 _ rfl; have y3 := H9.out.x.at_ 3 _ rfl; have y4 := H9.out.x.at_ 4 _ rfl; have y5 := H9.out.x.at_ 5 _ rfl; have y6 := H9.out.x.at_ 6 _ rfl; have y7 := H9.out.x.at_ 7 _ rfl)
        | (go_at_call 18; refine (awake19 _).mono ?_; rintro e wz ⟨rfl, hBz⟩))
      all_goals
        go_wp2
        go_returns
        exact ⟨rfl, H9.out.b.old.trans (Below.mono ⟨hBz.os, hBz.tape, hBz.output, hBz.size, hBz.block⟩ H9.out.b.old.size)⟩

end Go.Proofs.Ytdnfclhljahghaa.toneCopies
