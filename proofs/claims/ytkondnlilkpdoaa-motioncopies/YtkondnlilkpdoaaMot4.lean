/- What a motion's move does: five things, one by one. -/
import Derived.Test.YtkondnlilkpdoaaMot3
set_option linter.unusedVariables false
namespace Go.Proofs.Ytkondnlilkpdoaa.Mo
open Go.RowKit

theorem anda0 : ∀ x : Nat, x < 32 → (bits .and .u8 (x : Int) 1 == 0) = !x.testBit 0 := by decide +kernel
theorem nota0 : ∀ x : Nat, x < 32 → x.testBit 0 = true → bits .andNot .u8 (x : Int) 1 = (clr x 0 : Int) := by decide +kernel
theorem anda1 : ∀ x : Nat, x < 32 → (bits .and .u8 (x : Int) 2 == 0) = !x.testBit 1 := by decide +kernel
theorem nota1 : ∀ x : Nat, x < 32 → x.testBit 1 = true → bits .andNot .u8 (x : Int) 2 = (clr x 1 : Int) := by decide +kernel
theorem anda2 : ∀ x : Nat, x < 32 → (bits .and .u8 (x : Int) 4 == 0) = !x.testBit 2 := by decide +kernel
theorem nota2 : ∀ x : Nat, x < 32 → x.testBit 2 = true → bits .andNot .u8 (x : Int) 4 = (clr x 2 : Int) := by decide +kernel
theorem anda3 : ∀ x : Nat, x < 32 → (bits .and .u8 (x : Int) 8 == 0) = !x.testBit 3 := by decide +kernel
theorem nota3 : ∀ x : Nat, x < 32 → x.testBit 3 = true → bits .andNot .u8 (x : Int) 8 = (clr x 3 : Int) := by decide +kernel
theorem anda4 : ∀ x : Nat, x < 32 → (bits .and .u8 (x : Int) 16 == 0) = !x.testBit 4 := by decide +kernel
theorem nota4 : ∀ x : Nat, x < 32 → x.testBit 4 = true → bits .andNot .u8 (x : Int) 16 = (clr x 4 : Int) := by decide +kernel

section
variable {w0 w : World} {b n m c g v r t k : Nat} {N : Nat → Nat}
theorem St.to1 (h : St w0 b n m c g v r t k N w) (hB : v.testBit k = false) : St w0 b n m c g v r t (k + 1) N w :=
  ⟨by unfold vm; rw [hB]; exact h.p, h.k5, h.r, h.t.to (fun j _ => by
    by_cases e : j = k
    · subst e; simp [tl, hB]
    · by_cases l : j < k
      · rw [decide_eq_true l, decide_eq_true (show j < k + 1 by omega)]
      · rw [decide_eq_false l, decide_eq_false (show ¬ j < k + 1 by omega)]), h.b⟩
theorem St.to2 (h : St w0 b n m c g v r t k N w) (hF : Far w0 b r t) (hk : k < 5) (hv : v < 32) (hB : v.testBit k = true) (hE : (mvN (N k) == c) = true) : St w0 b n m c g v r t (k + 1) N (w.setCell ⟨b, 2, none⟩ (.int .u8 (clr (vm c v N k) k : Int))) :=
  ⟨by
    have e : vm c v N (k + 1) = clr (vm c v N k) k := by show (if _ then _ else _) = _; rw [hB, hE]; rfl
    rw [e]; exact h.p.put2 _ (clr_lt _ (vm_lt hv k (by omega)) k hk), h.k5.turn ((Turn.refl b w).set _ _), h.r.other _ _ _ (by have := hF.1; have := hF.2.1; omega), (h.t.other _ _ _ (by have := hF.1; have := hF.2.2.1; omega)).to (fun j _ => by
    by_cases e : j = k
    · subst e; simp [tl, hB, hE]
    · by_cases l : j < k
      · rw [decide_eq_true l, decide_eq_true (show j < k + 1 by omega)]
      · rw [decide_eq_false l, decide_eq_false (show ¬ j < k + 1 by omega)]), h.b.set _ _⟩
theorem St.to3 (h : St w0 b n m c g v r t k N w) (hF : Far w0 b r t) (hk : k < 5) (hB : v.testBit k = true) (hE : (mvN (N k) == c) = false) (hn : n < w0.heap.size) (hm : m < w0.heap.size) : St w0 b n m c g v r t (k + 1) N (w.setCell ⟨t, k, none⟩ (.bool true)) :=
  ⟨by
    have e : vm c v N (k + 1) = vm c v N k := by show (if _ then _ else _) = _; rw [hB, hE]; rfl
    rw [e]; exact h.p.other _ _ _ (by have := hF.1; have := hF.2.2.1; omega), h.k5.kept (Below.heap_setCell _ _ _ _ (by show n ≠ t; have := hF.2.2.1; omega)) (Below.heap_setCell _ _ _ _ (by show m ≠ t; have := hF.2.2.1; omega)), h.r.other _ _ _ hF.2.2.2, (h.t.put k hk true).to (fun j _ => by
    by_cases e : j = k
    · subst e; simp [tl, hB, hE]
    · rw [if_neg e]
      by_cases l : j < k
      · rw [decide_eq_true l, decide_eq_true (show j < k + 1 by omega)]
      · rw [decide_eq_false l, decide_eq_false (show ¬ j < k + 1 by omega)]), Turn.newset h.b hF.2.2.1⟩
theorem St.draws (h : St w0 b n m c g v r t k N w) (q : Nat) : St w0 b n m c g v r t k N (w.drewN q) :=
  ⟨h.p.draws q, h.k5.kept rfl rfl, h.r.draws q, h.t.draws q, (show Turn b w0 (w.drewN q) from ⟨h.b.os, h.b.tape, h.b.output, h.b.size, h.b.block⟩)⟩
end

set_option maxRecDepth 100000 in
set_option maxHeartbeats 8000000 in
theorem move (b n m c g v : Nat) (N : Nat → Nat) (w : World) (h : MAt w b c g v) (hk : Kp w b n m N) : Calls Try.prog 26 #[.pointer (some ⟨b, 0, none⟩), .func (.func 27) #[] #[.pointer (some ⟨n, 0, none⟩), .pointer (some ⟨m, 0, none⟩)]] w fun e w' => e = .returned (.agg #[.bool (tl c v N 0), .bool (tl c v N 1), .bool (tl c v N 2), .bool (tl c v N 3), .bool (tl c v N 4)]) ∧ MAt w' b c g (vm c v N 5) ∧ Turn b w w' := by
  have HV : Hid (v < 32) := h.ok.2.2
  have H2 := two_new w
  have HNM : Hid (n < w.heap.size ∧ m < w.heap.size) := (⟨hk.nlt, hk.mlt⟩ : n < w.heap.size ∧ m < w.heap.size)
  have HS : Hid (St w b n m c g v w.heap.size (w.heap.size + 1) 0 N ((w.alloc (.cells #[.bool false, .bool false, .bool false, .bool false, .bool false] 25)).alloc (.cells #[.bool false, .bool false, .bool false, .bool false, .bool false] 25))) :=
    (⟨h.below H2.2.2, hk.turn (Turn.of_below H2.2.2), H2.1, H2.2.1.to (fun j _ => by simp), Turn.of_below H2.2.2⟩ : St w b n m c g v w.heap.size (w.heap.size + 1) 0 N _)
  have HF : Hid (Far w b w.heap.size (w.heap.size + 1)) := (⟨h.lt, Nat.le_refl _, by omega, by omega⟩ : Far w b w.heap.size (w.heap.size + 1))
  clear h hk H2
  go_enter Try.func26, Try.ntmps26
  go_wp2
  generalize (w.alloc (.cells #[.bool false, .bool false, .bool false, .bool false, .bool false] 25)).alloc (.cells #[.bool false, .bool false, .bool false, .bool false, .bool false] 25) = w2 at *
  generalize w.heap.size + 1 = t at *
  obtain ⟨r, hr⟩ : ∃ r, w.heap.size = r := ⟨_, rfl⟩
  rw [hr] at HS HF ⊢
  clear hr
  go_loopw [8] (fun i wr => ∃ k : Nat, k ≤ 5 ∧ i = .int .i64 (k : Int) ∧ St w b n m c g v r t k N wr) (fun i _ => 5 - (intOf i).toNat)
  case atStart => exact ⟨0, by omega, rfl, HS.out⟩
  case round =>
    obtain ⟨k, hk, rfl, hS⟩ := hrel
    have H : Hid (St w b n m c g v r t k N wr) := hS
    clear hS HS
    rcases (show k = 0 ∨ k = 1 ∨ k = 2 ∨ k = 3 ∨ k = 4 ∨ k = 5 by omega) with rfl | rfl | rfl | rfl | rfl | rfl
    · obtain ⟨x, hx⟩ : ∃ x, vm c v N 0 = x := ⟨_, rfl⟩
      have HX : Hid (vm c v N 0 = x) := hx
      have lx : x < 32 := (by rw [← hx]; exact vm_lt HV.out 0 (by decide))
      have hb : x.testBit 0 = v.testBit 0 := (by rw [← hx, vm_bit HV.out 0 (by decide) 0 (by decide)]; rfl)
      have h2 := H.out.p.c2
      have f2 := H.out.p.fz 2
      have ft := H.out.t.fz 0
      have ht := H.out.t.c 0 (by decide)
      have ha := anda0 x lx
      rw [hx] at h2
      rw [hb] at ha
      have hn := nota0 x lx
      rw [hb] at hn
      cases hB : v.testBit 0
      · rw [hB] at ha
        have HN : Hid (St w b n m c g v r t (0 + 1) N wr) := H.out.to1 hB
        have ha' : ((x : Int) % 2 == 0) = ((x : Int) % 2 == 0) := rfl
        have ha1 : ((x : Int) % 2 == 0) = true := (by have := and_0 x lx; rw [hb, hB] at this; exact this)
        simp only [Bool.not_false] at ha
        clear H hx hb hn hB ha'
        go_wp2
        go_roundw
        case rel => exact ⟨0 + 1, by omega, by first | rfl | go_num, HN.out⟩
        case measure => simp [intOf]
      · rw [hB] at ha
        have hn2 := hn hB
        simp only [Bool.not_true] at ha
        have ha1 : ((x : Int) % 2 == 0) = false := (by have := and_0 x lx; rw [hb, hB] at this; exact this)
        cases hE : (mvN (N 0) == c)
        · have HN : Hid (∀ q, St w b n m c g v r t (0 + 1) N ((wr.drewN q).setCell ⟨t, 0, none⟩ (.bool true))) := (fun q => (H.out.draws q).to3 HF.out (by decide) hB hE HNM.out.1 HNM.out.2 : ∀ q, St w b n m c g v r t (0 + 1) N ((wr.drewN q).setCell ⟨t, 0, none⟩ (.bool true)))
          have HEE : Hid ((mvN (N 0) == c) = false) := hE
          clear hx hb hn hn2 hB hE
          go_wp2_with (go_at_call 27; fail)
          refine (ends b n m c g _ 0 N _ (by decide) H.out.p H.out.k5.ns H.out.k5.mp).mono ?_
          rintro e w3 ⟨rfl, q, rfl⟩
          rw [HEE.out]
          go_wp2
          go_roundw
          case rel => exact ⟨0 + 1, by omega, by first | rfl | go_num, HN.out q⟩
          case measure => simp [intOf]
        · have HN : Hid (∀ q, St w b n m c g v r t (0 + 1) N ((wr.drewN q).setCell ⟨b, 2, none⟩ (.int .u8 (clr x 0 : Int)))) := (fun q => (by have := (H.out.draws q).to2 HF.out (by decide) HV.out hB hE; rw [hx] at this; exact this) : ∀ q, St w b n m c g v r t (0 + 1) N ((wr.drewN q).setCell ⟨b, 2, none⟩ (.int .u8 (clr x 0 : Int))))
          have HEE : Hid ((mvN (N 0) == c) = true) := hE
          clear hx hb hn hB hE
          go_wp2_with (go_at_call 27; fail)
          refine (ends b n m c g _ 0 N _ (by decide) H.out.p H.out.k5.ns H.out.k5.mp).mono ?_
          rintro e w3 ⟨rfl, q, rfl⟩
          rw [HEE.out]
          go_wp2
          go_roundw
          case rel => exact ⟨0 + 1, by omega, by first | rfl | go_num, HN.out q⟩
          case measure => simp [intOf]
    · obtain ⟨x, hx⟩ : ∃ x, vm c v N 1 = x := ⟨_, rfl⟩
      have HX : Hid (vm c v N 1 = x) := hx
      have lx : x < 32 := (by rw [← hx]; exact vm_lt HV.out 1 (by decide))
      have hb : x.testBit 1 = v.testBit 1 := (by rw [← hx, vm_bit HV.out 1 (by decide) 1 (by decide)]; rfl)
      have h2 := H.out.p.c2
      have f2 := H.out.p.fz 2
      have ft := H.out.t.fz 1
      have ht := H.out.t.c 1 (by decide)
      have ha := anda1 x lx
      rw [hx] at h2
      rw [hb] at ha
      have hn := nota1 x lx
      rw [hb] at hn
      cases hB : v.testBit 1
      · rw [hB] at ha
        have HN : Hid (St w b n m c g v r t (1 + 1) N wr) := H.out.to1 hB
        have ha' : ((x : Int) % 2 == 0) = ((x : Int) % 2 == 0) := rfl
        simp only [Bool.not_false] at ha
        clear H hx hb hn hB ha'
        go_wp2
        go_roundw
        case rel => exact ⟨1 + 1, by omega, by first | rfl | go_num, HN.out⟩
        case measure => simp [intOf]
      · rw [hB] at ha
        have hn2 := hn hB
        simp only [Bool.not_true] at ha
        cases hE : (mvN (N 1) == c)
        · have HN : Hid (∀ q, St w b n m c g v r t (1 + 1) N ((wr.drewN q).setCell ⟨t, 1, none⟩ (.bool true))) := (fun q => (H.out.draws q).to3 HF.out (by decide) hB hE HNM.out.1 HNM.out.2 : ∀ q, St w b n m c g v r t (1 + 1) N ((wr.drewN q).setCell ⟨t, 1, none⟩ (.bool true)))
          have HEE : Hid ((mvN (N 1) == c) = false) := hE
          clear hx hb hn hn2 hB hE
          go_wp2_with (go_at_call 27; fail)
          refine (ends b n m c g _ 1 N _ (by decide) H.out.p H.out.k5.ns H.out.k5.mp).mono ?_
          rintro e w3 ⟨rfl, q, rfl⟩
          rw [HEE.out]
          go_wp2
          go_roundw
          case rel => exact ⟨1 + 1, by omega, by first | rfl | go_num, HN.out q⟩
          case measure => simp [intOf]
        · have HN : Hid (∀ q, St w b n m c g v r t (1 + 1) N ((wr.drewN q).setCell ⟨b, 2, none⟩ (.int .u8 (clr x 1 : Int)))) := (fun q => (by have := (H.out.draws q).to2 HF.out (by decide) HV.out hB hE; rw [hx] at this; exact this) : ∀ q, St w b n m c g v r t (1 + 1) N ((wr.drewN q).setCell ⟨b, 2, none⟩ (.int .u8 (clr x 1 : Int))))
          have HEE : Hid ((mvN (N 1) == c) = true) := hE
          clear hx hb hn hB hE
          go_wp2_with (go_at_call 27; fail)
          refine (ends b n m c g _ 1 N _ (by decide) H.out.p H.out.k5.ns H.out.k5.mp).mono ?_
          rintro e w3 ⟨rfl, q, rfl⟩
          rw [HEE.out]
          go_wp2
          go_roundw
          case rel => exact ⟨1 + 1, by omega, by first | rfl | go_num, HN.out q⟩
          case measure => simp [intOf]
    · obtain ⟨x, hx⟩ : ∃ x, vm c v N 2 = x := ⟨_, rfl⟩
      have HX : Hid (vm c v N 2 = x) := hx
      have lx : x < 32 := (by rw [← hx]; exact vm_lt HV.out 2 (by decide))
      have hb : x.testBit 2 = v.testBit 2 := (by rw [← hx, vm_bit HV.out 2 (by decide) 2 (by decide)]; rfl)
      have h2 := H.out.p.c2
      have f2 := H.out.p.fz 2
      have ft := H.out.t.fz 2
      have ht := H.out.t.c 2 (by decide)
      have ha := anda2 x lx
      rw [hx] at h2
      rw [hb] at ha
      have hn := nota2 x lx
      rw [hb] at hn
      cases hB : v.testBit 2
      · rw [hB] at ha
        have HN : Hid (St w b n m c g v r t (2 + 1) N wr) := H.out.to1 hB
        have ha' : ((x : Int) % 2 == 0) = ((x : Int) % 2 == 0) := rfl
        simp only [Bool.not_false] at ha
        clear H hx hb hn hB ha'
        go_wp2
        go_roundw
        case rel => exact ⟨2 + 1, by omega, by first | rfl | go_num, HN.out⟩
        case measure => simp [intOf]
      · rw [hB] at ha
        have hn2 := hn hB
        simp only [Bool.not_true] at ha
        cases hE : (mvN (N 2) == c)
        · have HN : Hid (∀ q, St w b n m c g v r t (2 + 1) N ((wr.drewN q).setCell ⟨t, 2, none⟩ (.bool true))) := (fun q => (H.out.draws q).to3 HF.out (by decide) hB hE HNM.out.1 HNM.out.2 : ∀ q, St w b n m c g v r t (2 + 1) N ((wr.drewN q).setCell ⟨t, 2, none⟩ (.bool true)))
          have HEE : Hid ((mvN (N 2) == c) = false) := hE
          clear hx hb hn hn2 hB hE
          go_wp2_with (go_at_call 27; fail)
          refine (ends b n m c g _ 2 N _ (by decide) H.out.p H.out.k5.ns H.out.k5.mp).mono ?_
          rintro e w3 ⟨rfl, q, rfl⟩
          rw [HEE.out]
          go_wp2
          go_roundw
          case rel => exact ⟨2 + 1, by omega, by first | rfl | go_num, HN.out q⟩
          case measure => simp [intOf]
        · have HN : Hid (∀ q, St w b n m c g v r t (2 + 1) N ((wr.drewN q).setCell ⟨b, 2, none⟩ (.int .u8 (clr x 2 : Int)))) := (fun q => (by have := (H.out.draws q).to2 HF.out (by decide) HV.out hB hE; rw [hx] at this; exact this) : ∀ q, St w b n m c g v r t (2 + 1) N ((wr.drewN q).setCell ⟨b, 2, none⟩ (.int .u8 (clr x 2 : Int))))
          have HEE : Hid ((mvN (N 2) == c) = true) := hE
          clear hx hb hn hB hE
          go_wp2_with (go_at_call 27; fail)
          refine (ends b n m c g _ 2 N _ (by decide) H.out.p H.out.k5.ns H.out.k5.mp).mono ?_
          rintro e w3 ⟨rfl, q, rfl⟩
          rw [HEE.out]
          go_wp2
          go_roundw
          case rel => exact ⟨2 + 1, by omega, by first | rfl | go_num, HN.out q⟩
          case measure => simp [intOf]
    · obtain ⟨x, hx⟩ : ∃ x, vm c v N 3 = x := ⟨_, rfl⟩
      have HX : Hid (vm c v N 3 = x) := hx
      have lx : x < 32 := (by rw [← hx]; exact vm_lt HV.out 3 (by decide))
      have hb : x.testBit 3 = v.testBit 3 := (by rw [← hx, vm_bit HV.out 3 (by decide) 3 (by decide)]; rfl)
      have h2 := H.out.p.c2
      have f2 := H.out.p.fz 2
      have ft := H.out.t.fz 3
      have ht := H.out.t.c 3 (by decide)
      have ha := anda3 x lx
      rw [hx] at h2
      rw [hb] at ha
      have hn := nota3 x lx
      rw [hb] at hn
      cases hB : v.testBit 3
      · rw [hB] at ha
        have HN : Hid (St w b n m c g v r t (3 + 1) N wr) := H.out.to1 hB
        have ha' : ((x : Int) % 2 == 0) = ((x : Int) % 2 == 0) := rfl
        simp only [Bool.not_false] at ha
        clear H hx hb hn hB ha'
        go_wp2
        go_roundw
        case rel => exact ⟨3 + 1, by omega, by first | rfl | go_num, HN.out⟩
        case measure => simp [intOf]
      · rw [hB] at ha
        have hn2 := hn hB
        simp only [Bool.not_true] at ha
        cases hE : (mvN (N 3) == c)
        · have HN : Hid (∀ q, St w b n m c g v r t (3 + 1) N ((wr.drewN q).setCell ⟨t, 3, none⟩ (.bool true))) := (fun q => (H.out.draws q).to3 HF.out (by decide) hB hE HNM.out.1 HNM.out.2 : ∀ q, St w b n m c g v r t (3 + 1) N ((wr.drewN q).setCell ⟨t, 3, none⟩ (.bool true)))
          have HEE : Hid ((mvN (N 3) == c) = false) := hE
          clear hx hb hn hn2 hB hE
          go_wp2_with (go_at_call 27; fail)
          refine (ends b n m c g _ 3 N _ (by decide) H.out.p H.out.k5.ns H.out.k5.mp).mono ?_
          rintro e w3 ⟨rfl, q, rfl⟩
          rw [HEE.out]
          go_wp2
          go_roundw
          case rel => exact ⟨3 + 1, by omega, by first | rfl | go_num, HN.out q⟩
          case measure => simp [intOf]
        · have HN : Hid (∀ q, St w b n m c g v r t (3 + 1) N ((wr.drewN q).setCell ⟨b, 2, none⟩ (.int .u8 (clr x 3 : Int)))) := (fun q => (by have := (H.out.draws q).to2 HF.out (by decide) HV.out hB hE; rw [hx] at this; exact this) : ∀ q, St w b n m c g v r t (3 + 1) N ((wr.drewN q).setCell ⟨b, 2, none⟩ (.int .u8 (clr x 3 : Int))))
          have HEE : Hid ((mvN (N 3) == c) = true) := hE
          clear hx hb hn hB hE
          go_wp2_with (go_at_call 27; fail)
          refine (ends b n m c g _ 3 N _ (by decide) H.out.p H.out.k5.ns H.out.k5.mp).mono ?_
          rintro e w3 ⟨rfl, q, rfl⟩
          rw [HEE.out]
          go_wp2
          go_roundw
          case rel => exact ⟨3 + 1, by omega, by first | rfl | go_num, HN.out q⟩
          case measure => simp [intOf]
    · obtain ⟨x, hx⟩ : ∃ x, vm c v N 4 = x := ⟨_, rfl⟩
      have HX : Hid (vm c v N 4 = x) := hx
      have lx : x < 32 := (by rw [← hx]; exact vm_lt HV.out 4 (by decide))
      have hb : x.testBit 4 = v.testBit 4 := (by rw [← hx, vm_bit HV.out 4 (by decide) 4 (by decide)]; rfl)
      have h2 := H.out.p.c2
      have f2 := H.out.p.fz 2
      have ft := H.out.t.fz 4
      have ht := H.out.t.c 4 (by decide)
      have ha := anda4 x lx
      rw [hx] at h2
      rw [hb] at ha
      have hn := nota4 x lx
      rw [hb] at hn
      cases hB : v.testBit 4
      · rw [hB] at ha
        have HN : Hid (St w b n m c g v r t (4 + 1) N wr) := H.out.to1 hB
        have ha' : ((x : Int) % 2 == 0) = ((x : Int) % 2 == 0) := rfl
        simp only [Bool.not_false] at ha
        clear H hx hb hn hB ha'
        go_wp2
        go_roundw
        case rel => exact ⟨4 + 1, by omega, by first | rfl | go_num, HN.out⟩
        case measure => simp [intOf]
      · rw [hB] at ha
        have hn2 := hn hB
        simp only [Bool.not_true] at ha
        cases hE : (mvN (N 4) == c)
        · have HN : Hid (∀ q, St w b n m c g v r t (4 + 1) N ((wr.drewN q).setCell ⟨t, 4, none⟩ (.bool true))) := (fun q => (H.out.draws q).to3 HF.out (by decide) hB hE HNM.out.1 HNM.out.2 : ∀ q, St w b n m c g v r t (4 + 1) N ((wr.drewN q).setCell ⟨t, 4, none⟩ (.bool true)))
          have HEE : Hid ((mvN (N 4) == c) = false) := hE
          clear hx hb hn hn2 hB hE
          go_wp2_with (go_at_call 27; fail)
          refine (ends b n m c g _ 4 N _ (by decide) H.out.p H.out.k5.ns H.out.k5.mp).mono ?_
          rintro e w3 ⟨rfl, q, rfl⟩
          rw [HEE.out]
          go_wp2
          go_roundw
          case rel => exact ⟨4 + 1, by omega, by first | rfl | go_num, HN.out q⟩
          case measure => simp [intOf]
        · have HN : Hid (∀ q, St w b n m c g v r t (4 + 1) N ((wr.drewN q).setCell ⟨b, 2, none⟩ (.int .u8 (clr x 4 : Int)))) := (fun q => (by have := (H.out.draws q).to2 HF.out (by decide) HV.out hB hE; rw [hx] at this; exact this) : ∀ q, St w b n m c g v r t (4 + 1) N ((wr.drewN q).setCell ⟨b, 2, none⟩ (.int .u8 (clr x 4 : Int))))
          have HEE : Hid ((mvN (N 4) == c) = true) := hE
          clear hx hb hn hB hE
          go_wp2_with (go_at_call 27; fail)
          refine (ends b n m c g _ 4 N _ (by decide) H.out.p H.out.k5.ns H.out.k5.mp).mono ?_
          rintro e w3 ⟨rfl, q, rfl⟩
          rw [HEE.out]
          go_wp2
          go_roundw
          case rel => exact ⟨4 + 1, by omega, by first | rfl | go_num, HN.out q⟩
          case measure => simp [intOf]
    · have t0 := H.out.t.c 0 (by decide)
      have t1 := H.out.t.c 1 (by decide)
      have t2 := H.out.t.c 2 (by decide)
      have t3 := H.out.t.c 3 (by decide)
      have t4 := H.out.t.c 4 (by decide)
      simp only [show decide (0 < 5) = true from rfl, show decide (1 < 5) = true from rfl, show decide (2 < 5) = true from rfl, show decide (3 < 5) = true from rfl, show decide (4 < 5) = true from rfl, Bool.true_and] at t0 t1 t2 t3 t4
      have r0 := H.out.r.c 0 (by decide)
      have r1 := H.out.r.c 1 (by decide)
      have r2 := H.out.r.c 2 (by decide)
      have r3 := H.out.r.c 3 (by decide)
      have r4 := H.out.r.c 4 (by decide)
      have f0 := H.out.r.fz 0
      have f1 := H.out.r.fz 1
      have f2 := H.out.r.fz 2
      have f3 := H.out.r.fz 3
      have f4 := H.out.r.fz 4
      have nb : b ≠ r := (by have := HF.out.1; have := HF.out.2.1; omega)
      have l := HF.out.2.1
      have HWB : Hid (BAt (((((wr.setCell ⟨r, 0, none⟩ (.bool (tl c v N 0))).setCell ⟨r, 1, none⟩ (.bool (tl c v N 1))).setCell ⟨r, 2, none⟩ (.bool (tl c v N 2))).setCell ⟨r, 3, none⟩ (.bool (tl c v N 3))).setCell ⟨r, 4, none⟩ (.bool (tl c v N 4))) r (tl c v N)) := ((((((H.out.r.put 0 (by decide) (tl c v N 0)).put 1 (by decide) (tl c v N 1)).put 2 (by decide) (tl c v N 2)).put 3 (by decide) (tl c v N 3)).put 4 (by decide) (tl c v N 4)).to (fun j hj => by rcases (show j = 0 ∨ j = 1 ∨ j = 2 ∨ j = 3 ∨ j = 4 by omega) with rfl | rfl | rfl | rfl | rfl <;> rfl) : BAt (((((wr.setCell ⟨r, 0, none⟩ (.bool (tl c v N 0))).setCell ⟨r, 1, none⟩ (.bool (tl c v N 1))).setCell ⟨r, 2, none⟩ (.bool (tl c v N 2))).setCell ⟨r, 3, none⟩ (.bool (tl c v N 3))).setCell ⟨r, 4, none⟩ (.bool (tl c v N 4))) r (tl c v N))
      have HWM : Hid (MAt (((((wr.setCell ⟨r, 0, none⟩ (.bool (tl c v N 0))).setCell ⟨r, 1, none⟩ (.bool (tl c v N 1))).setCell ⟨r, 2, none⟩ (.bool (tl c v N 2))).setCell ⟨r, 3, none⟩ (.bool (tl c v N 3))).setCell ⟨r, 4, none⟩ (.bool (tl c v N 4))) b c g (vm c v N 5) ∧ Turn b w (((((wr.setCell ⟨r, 0, none⟩ (.bool (tl c v N 0))).setCell ⟨r, 1, none⟩ (.bool (tl c v N 1))).setCell ⟨r, 2, none⟩ (.bool (tl c v N 2))).setCell ⟨r, 3, none⟩ (.bool (tl c v N 3))).setCell ⟨r, 4, none⟩ (.bool (tl c v N 4)))) := (⟨((((H.out.p.other r 0 _ nb).other r 1 _ nb).other r 2 _ nb).other r 3 _ nb).other r 4 _ nb, Turn.newset (Turn.newset (Turn.newset (Turn.newset (Turn.newset H.out.b l) l) l) l) l⟩ : MAt (((((wr.setCell ⟨r, 0, none⟩ (.bool (tl c v N 0))).setCell ⟨r, 1, none⟩ (.bool (tl c v N 1))).setCell ⟨r, 2, none⟩ (.bool (tl c v N 2))).setCell ⟨r, 3, none⟩ (.bool (tl c v N 3))).setCell ⟨r, 4, none⟩ (.bool (tl c v N 4))) b c g (vm c v N 5) ∧ Turn b w (((((wr.setCell ⟨r, 0, none⟩ (.bool (tl c v N 0))).setCell ⟨r, 1, none⟩ (.bool (tl c v N 1))).setCell ⟨r, 2, none⟩ (.bool (tl c v N 2))).setCell ⟨r, 3, none⟩ (.bool (tl c v N 3))).setCell ⟨r, 4, none⟩ (.bool (tl c v N 4))))
      clear nb l
      go_wp2
      generalize (((((wr.setCell ⟨r, 0, none⟩ (.bool (tl c v N 0))).setCell ⟨r, 1, none⟩ (.bool (tl c v N 1))).setCell ⟨r, 2, none⟩ (.bool (tl c v N 2))).setCell ⟨r, 3, none⟩ (.bool (tl c v N 3))).setCell ⟨r, 4, none⟩ (.bool (tl c v N 4))) = wf at *
      have q0 := HWB.out.c 0 (by decide)
      have q1 := HWB.out.c 1 (by decide)
      have q2 := HWB.out.c 2 (by decide)
      have q3 := HWB.out.c 3 (by decide)
      have q4 := HWB.out.c 4 (by decide)
      try simp only [Exit.inBlock, Exit.then]
      refine bodyPost_ret (v := .agg #[.bool (tl c v N 0), .bool (tl c v N 1), .bool (tl c v N 2), .bool (tl c v N 3), .bool (tl c v N 4)]) (by simp [results, Try.results26, q0, q1, q2, q3, q4, go_sem]) rfl ⟨rfl, HWM.out⟩

end Go.Proofs.Ytkondnlilkpdoaa.Mo
