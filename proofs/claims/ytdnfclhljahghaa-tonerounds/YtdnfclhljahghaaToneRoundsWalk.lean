/- ToneRounds, walked. (Written by wip/gen/gen_tonerounds.py.) -/
import Derived.Test.YtdnfclhljahghaaToneRoundsM
import Derived.Test.YtdnfclhljahghaaTone9
set_option linter.unusedVariables false
namespace Go.Proofs.Ytdnfclhljahghaa.toneRounds
open Go.RowKit To

set_option maxRecDepth 100000 in
set_option maxHeartbeats 8000000 in
theorem walk' (r0 a : Nat) (hr0 : r0 < 256) (ha : a < 256) (W : World) :
    Calls Try.prog 4 #[.int .u8 (r0 : Int), .int .u8 (a : Int)] W fun e w' => e = .returned (.bool true) ∧ Below W.heap.size W w' := by
  obtain ⟨r, hr⟩ : ∃ r, r0 % 32 = r := ⟨_, rfl⟩
  have hr32 : r < 32 := by omega
  have er1 : (r0 : Int) % 32 = (r : Int) := by omega
  have er2 : bits .and .u8 (r0 : Int) 31 = (r : Int) := by rw [mask31 r0 hr0]; omega
  have er3 : IntKind.i64.wrap (r : Int) = (r : Int) := IntWalk.i64_in _ (by omega)
  obtain ⟨L, hL⟩ : ∃ L, L = r + 1 := ⟨_, rfl⟩
  have er4 : IntKind.i64.wrap ((r : Int) + 1) = (L : Int) := by rw [IntWalk.i64_in _ (by omega)]; omega
  have ea1 : IntKind.i64.wrap (a : Int) = (a : Int) := IntWalk.i64_in _ (by omega)
  obtain ⟨N, hN⟩ : ∃ N, N = L + a := ⟨_, rfl⟩
  have en1 : IntKind.i64.wrap ((L : Int) + (a : Int)) = (N : Int) := by rw [IntWalk.i64_in _ (by omega)]; omega
  have HN : Hid (N = r + 1 + a ∧ L = r + 1 ∧ r < 32 ∧ a < 256 ∧ r0 % 32 = r) := (show N = r + 1 + a ∧ L = r + 1 ∧ r < 32 ∧ a < 256 ∧ r0 % 32 = r from ⟨by omega, hL, hr32, ha, hr⟩)
  clear hL hN hr
  go_enter Try.func4, Try.ntmps4
  go_wp2_with (fail)
  generalize hw1 : World.alloc (World.alloc _ _) _ = w1
  have H1 : Hid (Row w1 W.heap.size [.int .u8 4, .int .u8 5, .int .u8 1, .int .u8 8] ∧ Row w1 (W.heap.size + 1) [.int .i64 2, .int .i64 2, .int .i64 15, .int .i64 511] ∧ Below W.heap.size W w1) := by
    rw [← hw1]; exact rows2 W #[.int .u8 4, .int .u8 5, .int .u8 1, .int .u8 8] #[.int .i64 2, .int .i64 2, .int .i64 15, .int .i64 511] _ _ (by simp)
  clear hw1
  go_loopw [8] (fun v wr => ∃ i : Nat, i ≤ 4 ∧ v = .int .i64 (i : Int) ∧ Row wr W.heap.size [.int .u8 4, .int .u8 5, .int .u8 1, .int .u8 8] ∧ Row wr (W.heap.size + 1) [.int .i64 2, .int .i64 2, .int .i64 15, .int .i64 511] ∧ Below W.heap.size W wr) (fun v _ => 4 - (intOf v).toNat)
  case atStart => exact ⟨0, by omega, rfl, H1.out⟩
  case round =>
    obtain ⟨i, hi, rfl, hR⟩ := hrel
    have HR : Hid (Row wr W.heap.size [.int .u8 4, .int .u8 5, .int .u8 1, .int .u8 8] ∧ Row wr (W.heap.size + 1) [.int .i64 2, .int .i64 2, .int .i64 15, .int .i64 511] ∧ Below W.heap.size W wr) := hR
    clear hR H1
    generalize hX : W.heap.size = X at HR ⊢
    have HX : Hid (W.heap.size = X) := hX
    clear hX
    rcases (show i = 0 ∨ i = 1 ∨ i = 2 ∨ i = 3 ∨ i = 4 by omega) with rfl | rfl | rfl | rfl | rfl
    · skip
      obtain ⟨M, hM⟩ : ∃ M, M = 2 * L := ⟨_, rfl⟩
      have em1 : IntKind.i64.wrap (2 * (L : Int)) = (M : Int) := by have := HN.out; rw [IntWalk.i64_in _ (by omega)]; omega
      have em2 : IntKind.i64.wrap ((L : Int) * 2) = (M : Int) := by have := HN.out; rw [IntWalk.i64_in _ (by omega)]; omega
      have HM : Hid (M = 2 * (r + 1) ∧ M < 1000000) := (show M = 2 * (r + 1) ∧ M < 1000000 by have := HN.out; omega)
      clear hM
      go_wp2_with (go_at_call 12; fail)
      refine (NewB wr).mono ?_
      rintro e w2 ⟨b, rfl, h⟩
      have H2 : Hid (Vb wr b Vo.new w2) := h
      have x0 := (HR.out.1.below (by simp) h.old).at_ 0 _ rfl
      clear h
      go_wp2_with (go_at_call 19; fail)
      refine (ControlB 4 (by decide) H2.out).mono ?_
      rintro e w3 ⟨rfl, h⟩
      have H3 : Hid (Vb wr b { Vo.new with c := 4 } w3) := h
      clear h H2 x0
      go_wp2_with (go_at_call 20; fail)
      refine (RateB r0 hr0 H3.out).mono ?_
      rintro e w4 ⟨rfl, h⟩
      rw [HN.out.2.2.2.2] at h
      have H4 : Hid (Vb wr b { Vo.new with c := 4, r := r } w4) := h
      clear h H3
      go_wp2_with (go_at_call 21; fail)
      refine (VolumeB 7 (by decide) H4.out).mono ?_
      rintro e w5 ⟨rfl, h⟩
      have H5 : Hid (Vb wr b { Vo.new with c := 4, r := r, v := 7 } w5) := h
      clear h H4
      have HP : Hid (To.Alike (tk N { Vo.new with c := 4, r := r, v := 7 }) (tk M (tk N { Vo.new with c := 4, r := r, v := 7 })) ∧ (tk M (tk N { Vo.new with c := 4, r := r, v := 7 })).v = 7) := (show To.Alike _ _ ∧ _ = 7 by rw [HM.out.1, HN.out.1]; exact ⟨rounds 4 2 (.inl ⟨rfl, rfl⟩) r 7 a, by rw [tk_vv, tk_vv]⟩)
      go_wp2_with (go_at_call 22; fail)
      refine (ticked N (by have := HN.out; omega) H5.out).mono ?_
      rintro e w6 ⟨rfl, h, -⟩
      generalize tk N { Vo.new with c := 4, r := r, v := 7 } = q1 at h HP
      have H6 : Hid (Vb wr b q1 w6) := h
      clear h H5
      go_wp2_with (go_at_call 14; fail)
      refine (WordsB H6.out).mono ?_
      rintro e w7 ⟨rfl, -, h⟩
      unfold Vo.w
      have H7 : Hid (Vb wr b q1 w7) := h
      clear h H6
      have xt : ∀ o, (w7.alloc o).cell? ⟨X + 1, 0, none⟩ = some (.int .i64 2) := fun o => old_cell o ((HR.out.2.1.below (by simp) H7.out.old).at_ 0 _ rfl)
      go_wp2_with (go_at_call 22; fail)
      clear xt
      generalize hw8 : w7.alloc _ = w8
      have H8 : Hid (Vb wr b q1 w8 ∧ Row w8 w7.heap.size q1.w ∧ b < w7.heap.size) := by rw [← hw8]; exact ⟨H7.out.alloc _, Row.newL w7 q1.w _, H7.out.a.lt⟩
      clear hw8 H7
      generalize w7.heap.size = Y at H8 ⊢
      refine (ticked M (by have := HM.out.2; omega) H8.out.1).mono ?_
      rintro e w9 ⟨rfl, h, ht⟩
      generalize tk M q1 = q2 at h HP
      have H9 : Hid (Vb wr b q2 w9 ∧ Row w9 Y q1.w) := ⟨h, H8.out.2.1.turn (by simp [Vo.w]) ht (by have := H8.out.2.2; omega)⟩
      clear h ht H8
      go_wp2_with (go_at_call 14; fail)
      refine (WordsB H9.out.1).mono ?_
      rintro e w10 ⟨rfl, hB, h⟩
      unfold Vo.w
      rw [HP.out.1.1, HP.out.1.2.1, HP.out.1.2.2.1, HP.out.1.2.2.2]
      have H10 : Hid (Vb wr b q2 w10 ∧ Row w10 Y q1.w) := ⟨h, H9.out.2.below (by simp [Vo.w]) hB⟩
      clear h hB H9
      go_wp2_with (go_at_call 16; fail)
      generalize hw11 : w10.alloc _ = w11
      have H11 : Hid (Vb wr b q2 w11 ∧ Row w11 Y q1.w ∧ Row w11 w10.heap.size [.int .i64 (q2.c : Int), .int .i64 (q2.r : Int), .int .i64 (q2.v : Int), .int .i64 (q1.f4 : Int), .int .i64 (q2.f5 : Int), .int .i64 (q1.f9 : Int), .int .i64 (q1.k : Int), .int .i64 (oi q1.hi)]) := by rw [← hw11]; exact ⟨H10.out.1.alloc _, H10.out.2.alloc (by simp [Vo.w]) _, Row.new w10 _ _⟩
      clear hw11 H10
      generalize w10.heap.size = Z at H11 ⊢
      have y3 := H11.out.2.1.at_ 3 _ rfl
      have y5 := H11.out.2.1.at_ 5 _ rfl
      have y6 := H11.out.2.1.at_ 6 _ rfl
      have y7 := H11.out.2.1.at_ 7 _ rfl
      have z3 := H11.out.2.2.at_ 3 _ rfl
      have z5 := H11.out.2.2.at_ 5 _ rfl
      have z6 := H11.out.2.2.at_ 6 _ rfl
      have z7 := H11.out.2.2.at_ 7 _ rfl
      obtain ⟨V, hV⟩ : ∃ V, q2.level = V := ⟨_, rfl⟩
      have HV : Hid (q2.level = V) := hV
      have hV7 : V = 0 ∨ V = 7 := by rw [← hV]; rcases level_or q2 with h | h; · exact .inl h
                                     exact .inr (h.trans HP.out.2)
      clear hV
      refine (LevelB V HV.out H11.out.1).mono ?_
      rintro e w12 ⟨rfl, rfl⟩
      rcases hV7 with rfl | rfl
      all_goals
        go_wp2_with (go_at_call 16; refine (LevelB 7 HV.out H11.out.1).mono ?_; rintro e w13 ⟨rfl, rfl⟩)
        go_roundw
        case rel => exact ⟨1, by omega, by go_num, HR.out.1.below (by simp) H11.out.1.old, HR.out.2.1.below (by simp) H11.out.1.old, HR.out.2.2.trans (H11.out.1.old.mono (by have := HR.out.2.2.size; have := HX.out; omega))⟩
        case measure => simp [intOf]
    · skip
      obtain ⟨M, hM⟩ : ∃ M, M = 2 * L := ⟨_, rfl⟩
      have em1 : IntKind.i64.wrap (2 * (L : Int)) = (M : Int) := by have := HN.out; rw [IntWalk.i64_in _ (by omega)]; omega
      have em2 : IntKind.i64.wrap ((L : Int) * 2) = (M : Int) := by have := HN.out; rw [IntWalk.i64_in _ (by omega)]; omega
      have HM : Hid (M = 2 * (r + 1) ∧ M < 1000000) := (show M = 2 * (r + 1) ∧ M < 1000000 by have := HN.out; omega)
      clear hM
      go_wp2_with (go_at_call 12; fail)
      refine (NewB wr).mono ?_
      rintro e w2 ⟨b, rfl, h⟩
      have H2 : Hid (Vb wr b Vo.new w2) := h
      have x1 := (HR.out.1.below (by simp) h.old).at_ 1 _ rfl
      clear h
      go_wp2_with (go_at_call 19; fail)
      refine (ControlB 5 (by decide) H2.out).mono ?_
      rintro e w3 ⟨rfl, h⟩
      have H3 : Hid (Vb wr b { Vo.new with c := 5 } w3) := h
      clear h H2 x1
      go_wp2_with (go_at_call 20; fail)
      refine (RateB r0 hr0 H3.out).mono ?_
      rintro e w4 ⟨rfl, h⟩
      rw [HN.out.2.2.2.2] at h
      have H4 : Hid (Vb wr b { Vo.new with c := 5, r := r } w4) := h
      clear h H3
      go_wp2_with (go_at_call 21; fail)
      refine (VolumeB 7 (by decide) H4.out).mono ?_
      rintro e w5 ⟨rfl, h⟩
      have H5 : Hid (Vb wr b { Vo.new with c := 5, r := r, v := 7 } w5) := h
      clear h H4
      have HP : Hid (To.Alike (tk N { Vo.new with c := 5, r := r, v := 7 }) (tk M (tk N { Vo.new with c := 5, r := r, v := 7 })) ∧ (tk M (tk N { Vo.new with c := 5, r := r, v := 7 })).v = 7) := (show To.Alike _ _ ∧ _ = 7 by rw [HM.out.1, HN.out.1]; exact ⟨rounds 5 2 (.inr (.inl ⟨rfl, rfl⟩)) r 7 a, by rw [tk_vv, tk_vv]⟩)
      go_wp2_with (go_at_call 22; fail)
      refine (ticked N (by have := HN.out; omega) H5.out).mono ?_
      rintro e w6 ⟨rfl, h, -⟩
      generalize tk N { Vo.new with c := 5, r := r, v := 7 } = q1 at h HP
      have H6 : Hid (Vb wr b q1 w6) := h
      clear h H5
      go_wp2_with (go_at_call 14; fail)
      refine (WordsB H6.out).mono ?_
      rintro e w7 ⟨rfl, -, h⟩
      unfold Vo.w
      have H7 : Hid (Vb wr b q1 w7) := h
      clear h H6
      have xt : ∀ o, (w7.alloc o).cell? ⟨X + 1, 1, none⟩ = some (.int .i64 2) := fun o => old_cell o ((HR.out.2.1.below (by simp) H7.out.old).at_ 1 _ rfl)
      go_wp2_with (go_at_call 22; fail)
      clear xt
      generalize hw8 : w7.alloc _ = w8
      have H8 : Hid (Vb wr b q1 w8 ∧ Row w8 w7.heap.size q1.w ∧ b < w7.heap.size) := by rw [← hw8]; exact ⟨H7.out.alloc _, Row.newL w7 q1.w _, H7.out.a.lt⟩
      clear hw8 H7
      generalize w7.heap.size = Y at H8 ⊢
      refine (ticked M (by have := HM.out.2; omega) H8.out.1).mono ?_
      rintro e w9 ⟨rfl, h, ht⟩
      generalize tk M q1 = q2 at h HP
      have H9 : Hid (Vb wr b q2 w9 ∧ Row w9 Y q1.w) := ⟨h, H8.out.2.1.turn (by simp [Vo.w]) ht (by have := H8.out.2.2; omega)⟩
      clear h ht H8
      go_wp2_with (go_at_call 14; fail)
      refine (WordsB H9.out.1).mono ?_
      rintro e w10 ⟨rfl, hB, h⟩
      unfold Vo.w
      rw [HP.out.1.1, HP.out.1.2.1, HP.out.1.2.2.1, HP.out.1.2.2.2]
      have H10 : Hid (Vb wr b q2 w10 ∧ Row w10 Y q1.w) := ⟨h, H9.out.2.below (by simp [Vo.w]) hB⟩
      clear h hB H9
      go_wp2_with (go_at_call 16; fail)
      generalize hw11 : w10.alloc _ = w11
      have H11 : Hid (Vb wr b q2 w11 ∧ Row w11 Y q1.w ∧ Row w11 w10.heap.size [.int .i64 (q2.c : Int), .int .i64 (q2.r : Int), .int .i64 (q2.v : Int), .int .i64 (q1.f4 : Int), .int .i64 (q2.f5 : Int), .int .i64 (q1.f9 : Int), .int .i64 (q1.k : Int), .int .i64 (oi q1.hi)]) := by rw [← hw11]; exact ⟨H10.out.1.alloc _, H10.out.2.alloc (by simp [Vo.w]) _, Row.new w10 _ _⟩
      clear hw11 H10
      generalize w10.heap.size = Z at H11 ⊢
      have y3 := H11.out.2.1.at_ 3 _ rfl
      have y5 := H11.out.2.1.at_ 5 _ rfl
      have y6 := H11.out.2.1.at_ 6 _ rfl
      have y7 := H11.out.2.1.at_ 7 _ rfl
      have z3 := H11.out.2.2.at_ 3 _ rfl
      have z5 := H11.out.2.2.at_ 5 _ rfl
      have z6 := H11.out.2.2.at_ 6 _ rfl
      have z7 := H11.out.2.2.at_ 7 _ rfl
      obtain ⟨V, hV⟩ : ∃ V, q2.level = V := ⟨_, rfl⟩
      have HV : Hid (q2.level = V) := hV
      have hV7 : V = 0 ∨ V = 7 := by rw [← hV]; rcases level_or q2 with h | h; · exact .inl h
                                     exact .inr (h.trans HP.out.2)
      clear hV
      refine (LevelB V HV.out H11.out.1).mono ?_
      rintro e w12 ⟨rfl, rfl⟩
      rcases hV7 with rfl | rfl
      all_goals
        go_wp2_with (go_at_call 16; refine (LevelB 7 HV.out H11.out.1).mono ?_; rintro e w13 ⟨rfl, rfl⟩)
        go_roundw
        case rel => exact ⟨2, by omega, by go_num, HR.out.1.below (by simp) H11.out.1.old, HR.out.2.1.below (by simp) H11.out.1.old, HR.out.2.2.trans (H11.out.1.old.mono (by have := HR.out.2.2.size; have := HX.out; omega))⟩
        case measure => simp [intOf]
    · skip
      obtain ⟨M, hM⟩ : ∃ M, M = 15 * L := ⟨_, rfl⟩
      have em1 : IntKind.i64.wrap (15 * (L : Int)) = (M : Int) := by have := HN.out; rw [IntWalk.i64_in _ (by omega)]; omega
      have em2 : IntKind.i64.wrap ((L : Int) * 15) = (M : Int) := by have := HN.out; rw [IntWalk.i64_in _ (by omega)]; omega
      have HM : Hid (M = 15 * (r + 1) ∧ M < 1000000) := (show M = 15 * (r + 1) ∧ M < 1000000 by have := HN.out; omega)
      clear hM
      go_wp2_with (go_at_call 12; fail)
      refine (NewB wr).mono ?_
      rintro e w2 ⟨b, rfl, h⟩
      have H2 : Hid (Vb wr b Vo.new w2) := h
      have x2 := (HR.out.1.below (by simp) h.old).at_ 2 _ rfl
      clear h
      go_wp2_with (go_at_call 19; fail)
      refine (ControlB 1 (by decide) H2.out).mono ?_
      rintro e w3 ⟨rfl, h⟩
      have H3 : Hid (Vb wr b { Vo.new with c := 1 } w3) := h
      clear h H2 x2
      go_wp2_with (go_at_call 20; fail)
      refine (RateB r0 hr0 H3.out).mono ?_
      rintro e w4 ⟨rfl, h⟩
      rw [HN.out.2.2.2.2] at h
      have H4 : Hid (Vb wr b { Vo.new with c := 1, r := r } w4) := h
      clear h H3
      go_wp2_with (go_at_call 21; fail)
      refine (VolumeB 7 (by decide) H4.out).mono ?_
      rintro e w5 ⟨rfl, h⟩
      have H5 : Hid (Vb wr b { Vo.new with c := 1, r := r, v := 7 } w5) := h
      clear h H4
      have HP : Hid (To.Alike (tk N { Vo.new with c := 1, r := r, v := 7 }) (tk M (tk N { Vo.new with c := 1, r := r, v := 7 })) ∧ (tk M (tk N { Vo.new with c := 1, r := r, v := 7 })).v = 7) := (show To.Alike _ _ ∧ _ = 7 by rw [HM.out.1, HN.out.1]; exact ⟨rounds 1 15 (.inr (.inr (.inl ⟨rfl, rfl⟩))) r 7 a, by rw [tk_vv, tk_vv]⟩)
      go_wp2_with (go_at_call 22; fail)
      refine (ticked N (by have := HN.out; omega) H5.out).mono ?_
      rintro e w6 ⟨rfl, h, -⟩
      generalize tk N { Vo.new with c := 1, r := r, v := 7 } = q1 at h HP
      have H6 : Hid (Vb wr b q1 w6) := h
      clear h H5
      go_wp2_with (go_at_call 14; fail)
      refine (WordsB H6.out).mono ?_
      rintro e w7 ⟨rfl, -, h⟩
      unfold Vo.w
      have H7 : Hid (Vb wr b q1 w7) := h
      clear h H6
      have xt : ∀ o, (w7.alloc o).cell? ⟨X + 1, 2, none⟩ = some (.int .i64 15) := fun o => old_cell o ((HR.out.2.1.below (by simp) H7.out.old).at_ 2 _ rfl)
      go_wp2_with (go_at_call 22; fail)
      clear xt
      generalize hw8 : w7.alloc _ = w8
      have H8 : Hid (Vb wr b q1 w8 ∧ Row w8 w7.heap.size q1.w ∧ b < w7.heap.size) := by rw [← hw8]; exact ⟨H7.out.alloc _, Row.newL w7 q1.w _, H7.out.a.lt⟩
      clear hw8 H7
      generalize w7.heap.size = Y at H8 ⊢
      refine (ticked M (by have := HM.out.2; omega) H8.out.1).mono ?_
      rintro e w9 ⟨rfl, h, ht⟩
      generalize tk M q1 = q2 at h HP
      have H9 : Hid (Vb wr b q2 w9 ∧ Row w9 Y q1.w) := ⟨h, H8.out.2.1.turn (by simp [Vo.w]) ht (by have := H8.out.2.2; omega)⟩
      clear h ht H8
      go_wp2_with (go_at_call 14; fail)
      refine (WordsB H9.out.1).mono ?_
      rintro e w10 ⟨rfl, hB, h⟩
      unfold Vo.w
      rw [HP.out.1.1, HP.out.1.2.1, HP.out.1.2.2.1, HP.out.1.2.2.2]
      have H10 : Hid (Vb wr b q2 w10 ∧ Row w10 Y q1.w) := ⟨h, H9.out.2.below (by simp [Vo.w]) hB⟩
      clear h hB H9
      go_wp2_with (go_at_call 16; fail)
      generalize hw11 : w10.alloc _ = w11
      have H11 : Hid (Vb wr b q2 w11 ∧ Row w11 Y q1.w ∧ Row w11 w10.heap.size [.int .i64 (q2.c : Int), .int .i64 (q2.r : Int), .int .i64 (q2.v : Int), .int .i64 (q1.f4 : Int), .int .i64 (q2.f5 : Int), .int .i64 (q1.f9 : Int), .int .i64 (q1.k : Int), .int .i64 (oi q1.hi)]) := by rw [← hw11]; exact ⟨H10.out.1.alloc _, H10.out.2.alloc (by simp [Vo.w]) _, Row.new w10 _ _⟩
      clear hw11 H10
      generalize w10.heap.size = Z at H11 ⊢
      have y3 := H11.out.2.1.at_ 3 _ rfl
      have y5 := H11.out.2.1.at_ 5 _ rfl
      have y6 := H11.out.2.1.at_ 6 _ rfl
      have y7 := H11.out.2.1.at_ 7 _ rfl
      have z3 := H11.out.2.2.at_ 3 _ rfl
      have z5 := H11.out.2.2.at_ 5 _ rfl
      have z6 := H11.out.2.2.at_ 6 _ rfl
      have z7 := H11.out.2.2.at_ 7 _ rfl
      obtain ⟨V, hV⟩ : ∃ V, q2.level = V := ⟨_, rfl⟩
      have HV : Hid (q2.level = V) := hV
      have hV7 : V = 0 ∨ V = 7 := by rw [← hV]; rcases level_or q2 with h | h; · exact .inl h
                                     exact .inr (h.trans HP.out.2)
      clear hV
      refine (LevelB V HV.out H11.out.1).mono ?_
      rintro e w12 ⟨rfl, rfl⟩
      rcases hV7 with rfl | rfl
      all_goals
        go_wp2_with (go_at_call 16; refine (LevelB 7 HV.out H11.out.1).mono ?_; rintro e w13 ⟨rfl, rfl⟩)
        go_roundw
        case rel => exact ⟨3, by omega, by go_num, HR.out.1.below (by simp) H11.out.1.old, HR.out.2.1.below (by simp) H11.out.1.old, HR.out.2.2.trans (H11.out.1.old.mono (by have := HR.out.2.2.size; have := HX.out; omega))⟩
        case measure => simp [intOf]
    · skip
      obtain ⟨M, hM⟩ : ∃ M, M = 511 * L := ⟨_, rfl⟩
      have em1 : IntKind.i64.wrap (511 * (L : Int)) = (M : Int) := by have := HN.out; rw [IntWalk.i64_in _ (by omega)]; omega
      have em2 : IntKind.i64.wrap ((L : Int) * 511) = (M : Int) := by have := HN.out; rw [IntWalk.i64_in _ (by omega)]; omega
      have HM : Hid (M = 511 * (r + 1) ∧ M < 1000000) := (show M = 511 * (r + 1) ∧ M < 1000000 by have := HN.out; omega)
      clear hM
      go_wp2_with (go_at_call 12; fail)
      refine (NewB wr).mono ?_
      rintro e w2 ⟨b, rfl, h⟩
      have H2 : Hid (Vb wr b Vo.new w2) := h
      have x3 := (HR.out.1.below (by simp) h.old).at_ 3 _ rfl
      clear h
      go_wp2_with (go_at_call 19; fail)
      refine (ControlB 8 (by decide) H2.out).mono ?_
      rintro e w3 ⟨rfl, h⟩
      have H3 : Hid (Vb wr b { Vo.new with c := 8 } w3) := h
      clear h H2 x3
      go_wp2_with (go_at_call 20; fail)
      refine (RateB r0 hr0 H3.out).mono ?_
      rintro e w4 ⟨rfl, h⟩
      rw [HN.out.2.2.2.2] at h
      have H4 : Hid (Vb wr b { Vo.new with c := 8, r := r } w4) := h
      clear h H3
      go_wp2_with (go_at_call 21; fail)
      refine (VolumeB 7 (by decide) H4.out).mono ?_
      rintro e w5 ⟨rfl, h⟩
      have H5 : Hid (Vb wr b { Vo.new with c := 8, r := r, v := 7 } w5) := h
      clear h H4
      have HP : Hid (To.Alike (tk N { Vo.new with c := 8, r := r, v := 7 }) (tk M (tk N { Vo.new with c := 8, r := r, v := 7 })) ∧ (tk M (tk N { Vo.new with c := 8, r := r, v := 7 })).v = 7) := (show To.Alike _ _ ∧ _ = 7 by rw [HM.out.1, HN.out.1]; exact ⟨rounds 8 511 (.inr (.inr (.inr ⟨rfl, rfl⟩))) r 7 a, by rw [tk_vv, tk_vv]⟩)
      go_wp2_with (go_at_call 22; fail)
      refine (ticked N (by have := HN.out; omega) H5.out).mono ?_
      rintro e w6 ⟨rfl, h, -⟩
      generalize tk N { Vo.new with c := 8, r := r, v := 7 } = q1 at h HP
      have H6 : Hid (Vb wr b q1 w6) := h
      clear h H5
      go_wp2_with (go_at_call 14; fail)
      refine (WordsB H6.out).mono ?_
      rintro e w7 ⟨rfl, -, h⟩
      unfold Vo.w
      have H7 : Hid (Vb wr b q1 w7) := h
      clear h H6
      have xt : ∀ o, (w7.alloc o).cell? ⟨X + 1, 3, none⟩ = some (.int .i64 511) := fun o => old_cell o ((HR.out.2.1.below (by simp) H7.out.old).at_ 3 _ rfl)
      go_wp2_with (go_at_call 22; fail)
      clear xt
      generalize hw8 : w7.alloc _ = w8
      have H8 : Hid (Vb wr b q1 w8 ∧ Row w8 w7.heap.size q1.w ∧ b < w7.heap.size) := by rw [← hw8]; exact ⟨H7.out.alloc _, Row.newL w7 q1.w _, H7.out.a.lt⟩
      clear hw8 H7
      generalize w7.heap.size = Y at H8 ⊢
      refine (ticked M (by have := HM.out.2; omega) H8.out.1).mono ?_
      rintro e w9 ⟨rfl, h, ht⟩
      generalize tk M q1 = q2 at h HP
      have H9 : Hid (Vb wr b q2 w9 ∧ Row w9 Y q1.w) := ⟨h, H8.out.2.1.turn (by simp [Vo.w]) ht (by have := H8.out.2.2; omega)⟩
      clear h ht H8
      go_wp2_with (go_at_call 14; fail)
      refine (WordsB H9.out.1).mono ?_
      rintro e w10 ⟨rfl, hB, h⟩
      unfold Vo.w
      rw [HP.out.1.1, HP.out.1.2.1, HP.out.1.2.2.1, HP.out.1.2.2.2]
      have H10 : Hid (Vb wr b q2 w10 ∧ Row w10 Y q1.w) := ⟨h, H9.out.2.below (by simp [Vo.w]) hB⟩
      clear h hB H9
      go_wp2_with (go_at_call 16; fail)
      generalize hw11 : w10.alloc _ = w11
      have H11 : Hid (Vb wr b q2 w11 ∧ Row w11 Y q1.w ∧ Row w11 w10.heap.size [.int .i64 (q2.c : Int), .int .i64 (q2.r : Int), .int .i64 (q2.v : Int), .int .i64 (q1.f4 : Int), .int .i64 (q2.f5 : Int), .int .i64 (q1.f9 : Int), .int .i64 (q1.k : Int), .int .i64 (oi q1.hi)]) := by rw [← hw11]; exact ⟨H10.out.1.alloc _, H10.out.2.alloc (by simp [Vo.w]) _, Row.new w10 _ _⟩
      clear hw11 H10
      generalize w10.heap.size = Z at H11 ⊢
      have y3 := H11.out.2.1.at_ 3 _ rfl
      have y5 := H11.out.2.1.at_ 5 _ rfl
      have y6 := H11.out.2.1.at_ 6 _ rfl
      have y7 := H11.out.2.1.at_ 7 _ rfl
      have z3 := H11.out.2.2.at_ 3 _ rfl
      have z5 := H11.out.2.2.at_ 5 _ rfl
      have z6 := H11.out.2.2.at_ 6 _ rfl
      have z7 := H11.out.2.2.at_ 7 _ rfl
      obtain ⟨V, hV⟩ : ∃ V, q2.level = V := ⟨_, rfl⟩
      have HV : Hid (q2.level = V) := hV
      have hV7 : V = 0 ∨ V = 7 := by rw [← hV]; rcases level_or q2 with h | h; · exact .inl h
                                     exact .inr (h.trans HP.out.2)
      clear hV
      refine (LevelB V HV.out H11.out.1).mono ?_
      rintro e w12 ⟨rfl, rfl⟩
      rcases hV7 with rfl | rfl
      all_goals
        go_wp2_with (go_at_call 16; refine (LevelB 7 HV.out H11.out.1).mono ?_; rintro e w13 ⟨rfl, rfl⟩)
        go_roundw
        case rel => exact ⟨4, by omega, by go_num, HR.out.1.below (by simp) H11.out.1.old, HR.out.2.1.below (by simp) H11.out.1.old, HR.out.2.2.trans (H11.out.1.old.mono (by have := HR.out.2.2.size; have := HX.out; omega))⟩
        case measure => simp [intOf]
    · skip
      go_wp2_with (go_at_call 18; refine (awake19 _).mono ?_; rintro e w8 ⟨rfl, hB8⟩)
      go_returns
      exact ⟨rfl, by rw [HX.out]; exact HR.out.2.2.trans (hB8.mono (by have := HR.out.2.2.size; have := HX.out; omega))⟩

theorem walk (a0 : Int) (h0 : (Lit.int .u8 a0).wf = true) (a1 : Int) (h1 : (Lit.int .u8 a1).wf = true) (W : World) :
    Calls Try.prog 4 #[.int .u8 a0, .int .u8 a1] W fun e w' => e = .returned (.bool true) ∧ Below W.heap.size W w' := by
  have b0 := bounds_u8 h0
  have b1 := bounds_u8 h1
  obtain ⟨n, rfl⟩ := Int.eq_ofNat_of_zero_le b0.1
  obtain ⟨v, rfl⟩ := Int.eq_ofNat_of_zero_le b1.1
  exact walk' n v (by omega) (by omega) W

end Go.Proofs.Ytdnfclhljahghaa.toneRounds
