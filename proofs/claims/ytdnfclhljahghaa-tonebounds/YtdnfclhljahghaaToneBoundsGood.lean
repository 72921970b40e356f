/- ToneBounds: walked. (Written by wip/gen/gen_tone9.py.) -/
import Derived.Test.YtdnfclhljahghaaTone9
set_option linter.unusedVariables false
namespace Go.Proofs.Ytdnfclhljahghaa.toneBounds
open Go.RowKit To

theorem beat_v (p : Vo) : p.beat.v = p.v := by unfold Vo.beat; (repeat' split); all_goals rfl
theorem tick_v (p : Vo) : p.tick.v = p.v := by
  unfold Vo.tick
  split
  · rfl
  · rw [beat_v]
theorem tk_v : ∀ (n : Nat) (p : Vo), (tk n p).v = p.v
  | 0, p => rfl
  | n + 1, p => by rw [show tk (n + 1) p = (tk n p).tick from rfl, tick_v, tk_v n p]

set_option maxRecDepth 100000 in
set_option maxHeartbeats 8000000 in
theorem good (A : List To.Act) (ao : Option Addr) (cap b0 off0 : Nat) (W : World) (hA : ∀ a ∈ A, a.ok) (hl : A.length ≤ 20) (hS : SeenX W ao cap b0 off0 11 (A.map To.Act.row)) :
    Calls Try.prog 5 #[.slice ao A.length cap] W fun e w' => e = .returned (.bool true) ∧ Below W.heap.size W w' := by
  have HA : Hid (∀ a ∈ A, a.ok) := hA
  have HS : Hid (SeenX W ao cap b0 off0 11 (A.map To.Act.row)) := hS
  have hcap := hS.max
  have hle := hS.le
  rw [List.length_map] at hle
  clear hA hS
  generalize hn : A.length = n at *
  have HN : Hid (A.length = n) := hn
  clear hn
  go_enter Try.func5, Try.ntmps5
  go_wp2_with (go_at_call 12; fail)
  refine (NewB W).mono ?_
  rintro e w1 ⟨b, rfl, h⟩
  have H1 : Hid (Vb W b Vo.new w1) := h
  clear h
  go_wp2_with (fail)
  go_loopw [4, 5] (fun vo v wr => ∃ (k : Nat) (p : Vo), k ≤ n ∧ v = .int .i64 (k : Int) ∧ vo = .int .i64 (p.v : Int) ∧ Vb W b p wr) (fun _ v _ => n - (intOf v).toNat)
  case atStart => exact ⟨0, Vo.new, by omega, rfl, rfl, H1.out⟩
  case round =>
    obtain ⟨k, p, hk, rfl, rfl, hR⟩ := hrel
    have HR : Hid (Vb W b p wr) := hR
    clear hR H1
    by_cases hkn : k < n
    · skip
      obtain ⟨a, ha⟩ : ∃ a, A[k]? = some a := ⟨_, List.getElem?_eq_getElem (by rw [HN.out]; exact hkn)⟩
      have HK : Hid a.ok := HA.out a (List.mem_of_getElem? ha)
      have HC : Hid (∀ w', Below W.heap.size W w' → Cells w' b0 (off0 + k * 11) a) := fun w' hw' => (cells_of (HS.out.below hw' (Nat.le_refl _)) ha).2.2
      obtain ⟨hao, hb0, -⟩ := cells_of HS.out ha
      subst hao
      obtain ⟨q, hq⟩ : ∃ q, a.kind.tmod 7 = q := ⟨_, rfl⟩
      obtain ⟨q1, q2⟩ := kind7 hq
      have k0 : (0 : Int) ≤ (k : Int) := by omega
      have k1 : (k : Int) < (n : Int) := by omega
      have ck := (HC.out _ HR.out.old).k
      clear ha
      obtain ⟨z, hz⟩ : ∃ z, (q + 7) % 7 = z := ⟨_, rfl⟩
      have HZ : Hid (0 ≤ z ∧ z < 7) := (show 0 ≤ z ∧ z < 7 by omega)
      have hzt : (q + 7).tmod 7 = z := by rw [Int.tmod_eq_emod_of_nonneg (by omega)]; exact hz
      have e7 : IntKind.i64.wrap (q + 7) = q + 7 := IntWalk.i64_in _ (by omega)
      rcases (show z = 3 ∨ z = 4 ∨ z = 5 ∨ z = 6 ∨ (z ≠ 3 ∧ z ≠ 4 ∧ z ≠ 5 ∧ z ≠ 6) by omega) with hc | hc | hc | hc | hc
      · obtain rfl : z = 3 := hc
        clear HZ q1 q2
        have cn := (HC.out _ HR.out.old).n
        have hn2 := HK.out.n
        have en : IntKind.i64.wrap (a.n : Int) = a.n := IntWalk.i64_in _ (by omega)
        go_wp2_with (go_at_call 19; fail)
        refine (ControlB a.n HK.out.n HR.out).mono ?_
        rintro e w3 ⟨rfl, h⟩
        have H3 : Hid (Vb W b { p with c := a.n % 16 } w3) := h
        have hw3 : Below W.heap.size W w3 := h.old
        clear h HR ck cn
        obtain ⟨L, hL⟩ : ∃ L, ({ p with c := a.n % 16 } : Vo).level = L := ⟨_, rfl⟩
        have HL : Hid (L = 0 ∨ L = p.v) := (show L = 0 ∨ L = p.v by rw [← hL]; exact level_or _)
        have hL2 : L < 256 := by have := H3.out.a.ok.v; rw [← hL]; rcases level_or ({ p with c := a.n % 16 }) with h | h <;> omega
        have eL : IntKind.i64.wrap (L : Int) = L := IntWalk.i64_in _ (by omega)
        go_wp2_with (go_at_call 16; fail)
        refine (LevelB L hL H3.out).mono ?_
        rintro e w4 ⟨rfl, rfl⟩
        clear hL
        by_cases hl0 : L = 0
        · subst hl0
          go_wp2_with (fail)
          go_roundw
          case rel => exact ⟨k + 1, { p with c := a.n % 16 }, by omega, by go_num, (by first | rfl | rw [tk_v]), H3.out⟩
          case measure => simp [intOf]; omega
        · have l0 : ((L : Int) != 0) = true := bne_iff_ne.2 (by omega)
          have lv : ((L : Int) != (p.v : Int)) = false := by rw [HL.out.resolve_left hl0]; simp
          go_wp2_with (fail)
          go_roundw
          case rel => exact ⟨k + 1, { p with c := a.n % 16 }, by omega, by go_num, (by first | rfl | rw [tk_v]), H3.out⟩
          case measure => simp [intOf]; omega
      · obtain rfl : z = 4 := hc
        clear HZ q1 q2
        have cn := (HC.out _ HR.out.old).n
        have hn2 := HK.out.n
        have en : IntKind.i64.wrap (a.n : Int) = a.n := IntWalk.i64_in _ (by omega)
        go_wp2_with (go_at_call 20; fail)
        refine (RateB a.n HK.out.n HR.out).mono ?_
        rintro e w3 ⟨rfl, h⟩
        have H3 : Hid (Vb W b { p with r := a.n % 32 } w3) := h
        have hw3 : Below W.heap.size W w3 := h.old
        clear h HR ck cn
        obtain ⟨L, hL⟩ : ∃ L, ({ p with r := a.n % 32 } : Vo).level = L := ⟨_, rfl⟩
        have HL : Hid (L = 0 ∨ L = p.v) := (show L = 0 ∨ L = p.v by rw [← hL]; exact level_or _)
        have hL2 : L < 256 := by have := H3.out.a.ok.v; rw [← hL]; rcases level_or ({ p with r := a.n % 32 }) with h | h <;> omega
        have eL : IntKind.i64.wrap (L : Int) = L := IntWalk.i64_in _ (by omega)
        go_wp2_with (go_at_call 16; fail)
        refine (LevelB L hL H3.out).mono ?_
        rintro e w4 ⟨rfl, rfl⟩
        clear hL
        by_cases hl0 : L = 0
        · subst hl0
          go_wp2_with (fail)
          go_roundw
          case rel => exact ⟨k + 1, { p with r := a.n % 32 }, by omega, by go_num, (by first | rfl | rw [tk_v]), H3.out⟩
          case measure => simp [intOf]; omega
        · have l0 : ((L : Int) != 0) = true := bne_iff_ne.2 (by omega)
          have lv : ((L : Int) != (p.v : Int)) = false := by rw [HL.out.resolve_left hl0]; simp
          go_wp2_with (fail)
          go_roundw
          case rel => exact ⟨k + 1, { p with r := a.n % 32 }, by omega, by go_num, (by first | rfl | rw [tk_v]), H3.out⟩
          case measure => simp [intOf]; omega
      · obtain rfl : z = 5 := hc
        clear HZ q1 q2
        have cn := (HC.out _ HR.out.old).n
        have hn2 := HK.out.n
        have en : IntKind.i64.wrap (a.n : Int) = a.n := IntWalk.i64_in _ (by omega)
        go_wp2_with (go_at_call 21; fail)
        refine (VolumeB a.n HK.out.n HR.out).mono ?_
        rintro e w3 ⟨rfl, h⟩
        have H3 : Hid (Vb W b { p with v := a.n % 16 } w3) := h
        have hw3 : Below W.heap.size W w3 := h.old
        clear h HR ck cn
        obtain ⟨V, hV⟩ : ∃ V : Nat, a.n % 16 = V := ⟨_, rfl⟩
        have cn := (HC.out _ hw3).n
        have em : (a.n : Int) % 16 = (V : Int) := by omega
        rw [hV] at H3
        clear hV
        obtain ⟨L, hL⟩ : ∃ L, ({ p with v := V } : Vo).level = L := ⟨_, rfl⟩
        have HL : Hid (L = 0 ∨ L = V) := (show L = 0 ∨ L = V by rw [← hL]; exact level_or _)
        have hL2 : L < 256 := by have := H3.out.a.ok.v; rw [← hL]; rcases level_or ({ p with v := V }) with h | h <;> omega
        have eL : IntKind.i64.wrap (L : Int) = L := IntWalk.i64_in _ (by omega)
        go_wp2_with (go_at_call 16; fail)
        refine (LevelB L hL H3.out).mono ?_
        rintro e w4 ⟨rfl, rfl⟩
        clear hL
        by_cases hl0 : L = 0
        · subst hl0
          go_wp2_with (fail)
          go_roundw
          case rel => exact ⟨k + 1, { p with v := V }, by omega, by go_num, (by first | rfl | rw [tk_v]), H3.out⟩
          case measure => simp [intOf]; omega
        · have l0 : ((L : Int) != 0) = true := bne_iff_ne.2 (by omega)
          have lv : ((L : Int) != (V : Int)) = false := by rw [HL.out.resolve_left hl0]; simp
          go_wp2_with (fail)
          go_roundw
          case rel => exact ⟨k + 1, { p with v := V }, by omega, by go_num, (by first | rfl | rw [tk_v]), H3.out⟩
          case measure => simp [intOf]; omega
      · obtain rfl : z = 6 := hc
        clear HZ q1 q2
        cases hr : a.right
        · skip
          have cx0 := (HC.out _ HR.out.old).x0
          have cx1 := (HC.out _ HR.out.old).x1
          have cx2 := (HC.out _ HR.out.old).x2
          have cx3 := (HC.out _ HR.out.old).x3
          have cx4 := (HC.out _ HR.out.old).x4
          have cx5 := (HC.out _ HR.out.old).x5
          have cx6 := (HC.out _ HR.out.old).x6
          have cx7 := (HC.out _ HR.out.old).x7
          have HR0 : Hid (a.right = false) := hr
          clear hr
          go_wp2_with (go_at_call 23; fail)
          refine (SetB_no a.x0 a.x1 a.x2 a.x3 a.x4 a.x5 a.x6 a.x7 HR0.out HR.out).mono ?_
          rintro e w3 ⟨rfl, h⟩
          have H3 : Hid (Vb W b p w3) := h
          have hw3 : Below W.heap.size W w3 := h.old
          clear h HR ck cx0 cx1 cx2 cx3 cx4 cx5 cx6 cx7
          obtain ⟨L, hL⟩ : ∃ L, (p : Vo).level = L := ⟨_, rfl⟩
          have HL : Hid (L = 0 ∨ L = p.v) := (show L = 0 ∨ L = p.v by rw [← hL]; exact level_or _)
          have hL2 : L < 256 := by have := H3.out.a.ok.v; rw [← hL]; rcases level_or (p) with h | h <;> omega
          have eL : IntKind.i64.wrap (L : Int) = L := IntWalk.i64_in _ (by omega)
          go_wp2_with (go_at_call 16; fail)
          refine (LevelB L hL H3.out).mono ?_
          rintro e w4 ⟨rfl, rfl⟩
          clear hL
          by_cases hl0 : L = 0
          · subst hl0
            go_wp2_with (fail)
            go_roundw
            case rel => exact ⟨k + 1, p, by omega, by go_num, (by first | rfl | rw [tk_v]), H3.out⟩
            case measure => simp [intOf]; omega
          · have l0 : ((L : Int) != 0) = true := bne_iff_ne.2 (by omega)
            have lv : ((L : Int) != (p.v : Int)) = false := by rw [HL.out.resolve_left hl0]; simp
            go_wp2_with (fail)
            go_roundw
            case rel => exact ⟨k + 1, p, by omega, by go_num, (by first | rfl | rw [tk_v]), H3.out⟩
            case measure => simp [intOf]; omega
        · skip
          have cx0 := (HC.out _ HR.out.old).x0
          have cx1 := (HC.out _ HR.out.old).x1
          have cx2 := (HC.out _ HR.out.old).x2
          have cx3 := (HC.out _ HR.out.old).x3
          have cx4 := (HC.out _ HR.out.old).x4
          have cx5 := (HC.out _ HR.out.old).x5
          have cx6 := (HC.out _ HR.out.old).x6
          have cx7 := (HC.out _ HR.out.old).x7
          have HR0 : Hid (a.right = true) := hr
          clear hr
          go_wp2_with (go_at_call 23; fail)
          refine (SetB_yes a.x0 a.x1 a.x2 a.x3 a.x4 a.x5 a.x6 a.x7 HR0.out HR.out).mono ?_
          rintro e w3 ⟨rfl, h⟩
          have H3 : Hid (Vb W b (ofV a.x0 a.x1 a.x2 a.x3 a.x4 a.x5 a.x6 a.x7) w3) := h
          have hw3 : Below W.heap.size W w3 := h.old
          clear h HR ck cx0 cx1 cx2 cx3 cx4 cx5 cx6 cx7
          have cx2 := (HC.out _ hw3).x2
          have ev : a.x2 = (((ofV a.x0 a.x1 a.x2 a.x3 a.x4 a.x5 a.x6 a.x7).v : Nat) : Int) := (ofV_w HR0.out).2.2.1
          rw [ev] at cx2
          clear ev
          generalize ofV a.x0 a.x1 a.x2 a.x3 a.x4 a.x5 a.x6 a.x7 = q0 at H3 cx2 ⊢
          obtain ⟨L, hL⟩ : ∃ L, (q0 : Vo).level = L := ⟨_, rfl⟩
          have HL : Hid (L = 0 ∨ L = q0.v) := (show L = 0 ∨ L = q0.v by rw [← hL]; exact level_or _)
          have hL2 : L < 256 := by have := H3.out.a.ok.v; rw [← hL]; rcases level_or (q0) with h | h <;> omega
          have eL : IntKind.i64.wrap (L : Int) = L := IntWalk.i64_in _ (by omega)
          go_wp2_with (go_at_call 16; fail)
          refine (LevelB L hL H3.out).mono ?_
          rintro e w4 ⟨rfl, rfl⟩
          clear hL
          by_cases hl0 : L = 0
          · subst hl0
            go_wp2_with (fail)
            go_roundw
            case rel => exact ⟨k + 1, q0, by omega, by go_num, (by first | rfl | rw [tk_v]), H3.out⟩
            case measure => simp [intOf]; omega
          · have l0 : ((L : Int) != 0) = true := bne_iff_ne.2 (by omega)
            have lv : ((L : Int) != (q0.v : Int)) = false := by rw [HL.out.resolve_left hl0]; simp
            go_wp2_with (fail)
            go_roundw
            case rel => exact ⟨k + 1, q0, by omega, by go_num, (by first | rfl | rw [tk_v]), H3.out⟩
            case measure => simp [intOf]; omega
      · have z3 : (z == 3) = false := beq_eq_false_iff_ne.2 hc.1
        have z4 : (z == 4) = false := beq_eq_false_iff_ne.2 hc.2.1
        have z5 : (z == 5) = false := beq_eq_false_iff_ne.2 hc.2.2.1
        have z6 : (z == 6) = false := beq_eq_false_iff_ne.2 hc.2.2.2
        clear hc HZ q1 q2
        have ct := (HC.out _ HR.out.old).t
        obtain ⟨N, hN⟩ : ∃ N : Nat, (a.t : Int) % 700 = (N : Int) := ⟨a.t % 700, by omega⟩
        have ht2 := HK.out.t
        have et : IntKind.i64.wrap (a.t : Int) = a.t := IntWalk.i64_in _ (by omega)
        have HN7 : Hid (N < 700) := (show N < 700 by omega)
        go_wp2_with (go_at_call 22; fail)
        refine (ticked N (by have := HN7.out; omega) HR.out).mono ?_
        rintro e w3 ⟨rfl, h, -⟩
        have H3 : Hid (Vb W b (tk N p) w3) := h
        have hw3 : Below W.heap.size W w3 := h.old
        clear h HR ck ct
        obtain ⟨L, hL⟩ : ∃ L, (tk N p : Vo).level = L := ⟨_, rfl⟩
        have HL : Hid (L = 0 ∨ L = p.v) := (show L = 0 ∨ L = p.v by rw [← hL, ← tk_v N p]; exact level_or _)
        have hL2 : L < 256 := by have := H3.out.a.ok.v; rw [← hL]; rcases level_or (tk N p) with h | h <;> omega
        have eL : IntKind.i64.wrap (L : Int) = L := IntWalk.i64_in _ (by omega)
        go_wp2_with (go_at_call 16; fail)
        refine (LevelB L hL H3.out).mono ?_
        rintro e w4 ⟨rfl, rfl⟩
        clear hL
        by_cases hl0 : L = 0
        · subst hl0
          go_wp2_with (fail)
          go_roundw
          case rel => exact ⟨k + 1, tk N p, by omega, by go_num, (by first | rfl | rw [tk_v]), H3.out⟩
          case measure => simp [intOf]; omega
        · have l0 : ((L : Int) != 0) = true := bne_iff_ne.2 (by omega)
          have lv : ((L : Int) != (p.v : Int)) = false := by rw [HL.out.resolve_left hl0]; simp
          go_wp2_with (fail)
          go_roundw
          case rel => exact ⟨k + 1, tk N p, by omega, by go_num, (by first | rfl | rw [tk_v]), H3.out⟩
          case measure => simp [intOf]; omega
    · have hkn' : k = n := by omega
      subst hkn'
      go_wp2_with (go_at_call 18; refine (awake19 _).mono ?_; rintro e w5 ⟨rfl, hB5⟩)
      go_returns
      exact ⟨rfl, HR.out.old.trans (hB5.mono HR.out.old.size)⟩

end Go.Proofs.Ytdnfclhljahghaa.toneBounds
