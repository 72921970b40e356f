/- A cycle's end: the course from code to code. -/
import Derived.Test.YtelmohajdmcnmaaDoorMi8
namespace Go.Proofs.YtelmohajdmcnmaaDoor.Mi
open Go.RowKit Alu Ex
set_option linter.unusedVariables false

theorem up16 (n : Nat) (h : n < 65536) : ((n : Int) + 1) % 65536 = (((n + 1) % 65536 : Nat) : Int) := by omega
theorem up16w (n : Nat) (h : n < 65536) : IntKind.u16.wrap ((n : Int) + 1) = (((n + 1) % 65536 : Nat) : Int) := by rw [IntKind.wrap_u16]; omega
theorem up8 (n : Nat) (h : n < 256) : ((n : Int) + 1) % 256 = (((n + 1) % 256 : Nat) : Int) := by omega
theorem up8w (n : Nat) (h : n < 256) : IntKind.u8.wrap ((n : Int) + 1) = (((n + 1) % 256 : Nat) : Int) := by rw [IntKind.wrap_u8]; omega
theorem dn8 (n : Nat) (h : n < 256) : ((n : Int) - 1) % 256 = (((n + 255) % 256 : Nat) : Int) := by omega
theorem dn8w (n : Nat) (h : n < 256) : IntKind.u8.wrap ((n : Int) - 1) = (((n + 255) % 256 : Nat) : Int) := by rw [IntKind.wrap_u8]; omega
theorem dn_lt (r : Rg) : r.dn.s < 256 := Nat.mod_lt _ (by decide)
theorem up_lt (r : Rg) : r.up.s < 256 := Nat.mod_lt _ (by decide)

set_option maxRecDepth 100000 in
set_option maxHeartbeats 16000000 in
theorem endCourse (b v : Nat) (c : Cp) (w : World) (h : Row w b c.cells) (ok : c.ok) (hv : v < 256) (ht : Co.Tab w) (hb : 3 < b) (hst : 0 ≤ c.st ∧ c.st ≤ 12) : Calls Tryd.prog 37 #[.pointer (some ⟨b, 0, none⟩), .int .u8 (v : Int)] w fun e w' => e = .returned (.tuple #[]) ∧ Row w' b (c.clk v).cells ∧ Turn b w w' := by
  have H : Hid (Row w b c.cells) := h
  have c0 := h.at_ 0 _ rfl
  have c1 := h.at_ 1 _ rfl
  have c2 := h.at_ 2 _ rfl
  have c3 := h.at_ 3 _ rfl
  have c4 := h.at_ 4 _ rfl
  have c5 := h.at_ 5 _ rfl
  have c6 := h.at_ 6 _ rfl
  have c7 := h.at_ 7 _ rfl
  have c8 := h.at_ 8 _ rfl
  have c9 := h.at_ 9 _ rfl
  have c10 := h.at_ 10 _ rfl
  have c11 := h.at_ 11 _ rfl
  have c12 := h.at_ 12 _ rfl
  have c13 := h.at_ 13 _ rfl
  have c14 := h.at_ 14 _ rfl
  have c15 := h.at_ 15 _ rfl
  have c16 := h.at_ 16 _ rfl
  have c17 := h.at_ 17 _ rfl
  have c18 := h.at_ 18 _ rfl
  have c19 := h.at_ 19 _ rfl
  have c20 := h.at_ 20 _ rfl
  have c21 := h.at_ 21 _ rfl
  have c22 := h.at_ 22 _ rfl
  have hf := h.fz
  clear h
  have hpc := ok.r.pc
  have hs := ok.r.s
  have hp := ok.r.p
  have had := ok.ad
  have HPC : Hid (((c.r.pc : Int) + 1) % 65536 = (((c.r.pc + 1) % 65536 : Nat) : Int)) := up16 _ hpc
  have HPW : Hid (IntKind.u16.wrap ((c.r.pc : Int) + 1) = (((c.r.pc + 1) % 65536 : Nat) : Int)) := up16w _ hpc
  have HAC : Hid (((c.ad : Int) + 1) % 65536 = (((c.ad + 1) % 65536 : Nat) : Int)) := up16 _ had
  have HAW : Hid (IntKind.u16.wrap ((c.ad : Int) + 1) = (((c.ad + 1) % 65536 : Nat) : Int)) := up16w _ had
  have HDC : Hid (((c.r.s : Int) - 1) % 256 = (((c.r.s + 255) % 256 : Nat) : Int)) := dn8 _ hs
  have HDW : Hid (IntKind.u8.wrap ((c.r.s : Int) - 1) = (((c.r.s + 255) % 256 : Nat) : Int)) := dn8w _ hs
  have HUC : Hid (((c.r.s : Int) + 1) % 256 = (((c.r.s + 1) % 256 : Nat) : Int)) := up8 _ hs
  have HUW : Hid (IntKind.u8.wrap ((c.r.s : Int) + 1) = (((c.r.s + 1) % 256 : Nat) : Int)) := up8w _ hs
  have HO4 : Hid (bits .or .u8 (c.r.p : Int) 4 = ((W c.r.p 4 true : Nat) : Int)) := or4 _ hp
  have HO16 : Hid (bits .or .u8 (c.r.p : Int) 16 = ((W c.r.p 16 true : Nat) : Int)) := or16 _ hp
  rcases (show c.st = 0 ∨ c.st = 1 ∨ c.st = 2 ∨ c.st = 3 ∨ c.st = 4 ∨ c.st = 5 ∨ c.st = 6 ∨ c.st = 7 ∨ c.st = 8 ∨ c.st = 9 ∨ c.st = 10 ∨ c.st = 11 ∨ c.st = 12 by omega) with e | e | e | e | e | e | e | e | e | e | e | e | e
  · rw [e] at c6
    have HE : Hid (c.clk v = c.rd c.r.pc 1) := by show _ = _; unfold Cp.clk; rw [e]; rfl
    go_enter Tryd.func37, Tryd.ntmps37
    go_wp2_with (first | (go_at_call 48; refine (read b c.r.pc 1 c _ H.out).mono ?_; rintro e w1 ⟨rfl, h1, t1⟩))
    go_returns
    exact ⟨rfl, by rw [HE.out]; exact h1, t1⟩
  · rw [e] at c6
    have HE : Hid (c.clk v = c.rd (jn c.r.s 1) 2) := by show _ = _; unfold Cp.clk; rw [e]; rfl
    go_enter Tryd.func37, Tryd.ntmps37
    go_wp2_with (first | (go_at_call 51; refine (stack b c _ H.out hs).mono ?_; rintro e w' ⟨rfl, rfl⟩) | (go_at_call 48; refine (read b (jn c.r.s 1) 2 c _ H.out).mono ?_; rintro e w1 ⟨rfl, h1, t1⟩))
    go_returns
    exact ⟨rfl, by rw [HE.out]; exact h1, t1⟩
  · rw [e] at c6
    have HE : Hid (c.clk v = (c.sr c.r.dn).rd (jn c.r.dn.s 1) 3) := by show _ = _; unfold Cp.clk; rw [e]; rfl
    go_enter Tryd.func37, Tryd.ntmps37
    go_wp2
    (first | rw [HDC.out] | rw [HDW.out])
    go_region_with (first
      | (go_at_call 51; refine (stack b (c.sr c.r.dn) _ (Row.drew ((H.out.put 3 _).to rfl)) (dn_lt _)).mono ?_; rintro e w' ⟨rfl, rfl⟩)
      | (go_at_call 48; refine (read b (jn c.r.dn.s 1) 3 (c.sr c.r.dn) _ (Row.drew ((H.out.put 3 _).to rfl))).mono ?_; rintro e w1 ⟨rfl, h1, t1⟩))
    all_goals go_wp2
    all_goals go_returns
    all_goals exact ⟨rfl, by rw [HE.out]; exact h1, (Turn.draws (Turn.set (Turn.refl b _) _ _) 1).trans t1⟩
  · rw [e] at c6
    have HE : Hid (c.clk v = (c.sr c.r.dn).rd (jn c.r.dn.s 1) 4) := by show _ = _; unfold Cp.clk; rw [e]; rfl
    go_enter Tryd.func37, Tryd.ntmps37
    go_wp2
    (first | rw [HDC.out] | rw [HDW.out])
    go_region_with (first
      | (go_at_call 51; refine (stack b (c.sr c.r.dn) _ (Row.drew ((H.out.put 3 _).to rfl)) (dn_lt _)).mono ?_; rintro e w' ⟨rfl, rfl⟩)
      | (go_at_call 48; refine (read b (jn c.r.dn.s 1) 4 (c.sr c.r.dn) _ (Row.drew ((H.out.put 3 _).to rfl))).mono ?_; rintro e w1 ⟨rfl, h1, t1⟩))
    all_goals go_wp2
    all_goals go_returns
    all_goals exact ⟨rfl, by rw [HE.out]; exact h1, (Turn.draws (Turn.set (Turn.refl b _) _ _) 1).trans t1⟩
  · rw [e] at c6
    have HE : Hid (c.clk v = (c.sr c.r.dn).rd 65532 5) := by show _ = _; unfold Cp.clk; rw [e]; rfl
    go_enter Tryd.func37, Tryd.ntmps37
    go_wp2_with (first | (go_at_call 48; (first | rw [HDC.out] | rw [HDW.out]); refine (read b 65532 5 (c.sr c.r.dn) _ ((H.out.put 3 _).to rfl)).mono ?_; rintro e w1 ⟨rfl, h1, t1⟩))
    go_returns
    exact ⟨rfl, by rw [HE.out]; exact h1, (Turn.set (Turn.refl b _) _ _).trans t1⟩
  · rw [e] at c6
    have HE : Hid (c.clk v = (c.sl v c.hi).rd ((c.ad + 1) % 65536) 6) := by show _ = _; unfold Cp.clk; rw [e]; rfl
    go_enter Tryd.func37, Tryd.ntmps37
    go_wp2_with (first | (go_at_call 48; (first | rw [HAC.out] | rw [HAW.out]); refine (read b ((c.ad + 1) % 65536) 6 (c.sl v c.hi) _ ((H.out.put 15 _).to rfl)).mono ?_; rintro e w1 ⟨rfl, h1, t1⟩))
    go_returns
    exact ⟨rfl, by rw [HE.out]; exact h1, (Turn.set (Turn.refl b _) _ _).trans t1⟩
  · rw [e] at c6
    have HE : Hid (c.clk v = (c.sr (c.r.fl (W c.r.p 4 true))).jp (jn c.lo v)) := by show _ = _; unfold Cp.clk; rw [e]; rfl
    go_enter Tryd.func37, Tryd.ntmps37
    go_wp2_with (first | (go_at_call 53; refine (join8 c.lo v _ ok.lo hv).mono ?_; rintro e w' ⟨rfl, rfl⟩) | (go_at_call 52; (first | rw [HO4.out] | rw [HO4.out]); refine (jump b (jn c.lo v) (c.sr (c.r.fl (W c.r.p 4 true))) _ ((H.out.put 4 _).to rfl)).mono ?_; rintro e w1 ⟨rfl, h1, t1⟩))
    go_returns
    exact ⟨rfl, by rw [HE.out]; exact h1, (Turn.set (Turn.refl b _) _ _).trans t1⟩
  · rw [e] at c6
    have HE : Hid (c.clk v = (c.sr c.r.nx).bg v) := by show _ = _; unfold Cp.clk; rw [e]; rfl
    go_enter Tryd.func37, Tryd.ntmps37
    go_wp2_with (first | (go_at_call 54; (first | rw [HPC.out] | rw [HPW.out]); refine (begin b v (c.sr c.r.nx) _ ((H.out.put 5 _).to rfl) ⟨⟨ok.r.a, ok.r.x, ok.r.y, ok.r.s, ok.r.p, (Nat.mod_lt _ (by decide) : (c.r.pc + 1) % 65536 < 65536)⟩, ok.st, ok.ad, ok.da, ok.op, ok.md, ok.kd0, ok.kd1, ok.lo, ok.hi, ok.rb⟩ hv (ht.below (n := 4) (below_set (Below.refl 4 _) hb) (by decide)) hb).mono ?_; rintro e w1 ⟨rfl, h1, t1⟩))
    go_returns
    exact ⟨rfl, by rw [HE.out]; exact h1, (Turn.set (Turn.refl b _) _ _).trans t1⟩
  · rw [e] at c6
    have HE : Hid (c.clk v = c.il) := by show _ = _; unfold Cp.clk; rw [e]; rfl
    go_enter Tryd.func37, Tryd.ntmps37
    go_wp2_with (first | (go_at_call 55; refine (endIdling b c _ H.out ok).mono ?_; rintro e w1 ⟨rfl, h1, t1⟩))
    go_returns
    exact ⟨rfl, by rw [HE.out]; exact h1, t1⟩
  · rw [e] at c6
    have HE : Hid (c.clk v = (c.sr c.r.nx).tk v) := by show _ = _; unfold Cp.clk; rw [e]; rfl
    go_enter Tryd.func37, Tryd.ntmps37
    go_wp2_with (first | (go_at_call 56; (first | rw [HPC.out] | rw [HPW.out]); refine (take b v (c.sr c.r.nx) _ ((H.out.put 5 _).to rfl) ⟨⟨ok.r.a, ok.r.x, ok.r.y, ok.r.s, ok.r.p, (Nat.mod_lt _ (by decide) : (c.r.pc + 1) % 65536 < 65536)⟩, ok.st, ok.ad, ok.da, ok.op, ok.md, ok.kd0, ok.kd1, ok.lo, ok.hi, ok.rb⟩ hv).mono ?_; rintro e w1 ⟨rfl, h1, t1⟩))
    go_returns
    exact ⟨rfl, by rw [HE.out]; exact h1, (Turn.set (Turn.refl b _) _ _).trans t1⟩
  · rw [e] at c6
    have HE : Hid (c.clk v = c.br) := by show _ = _; unfold Cp.clk; rw [e]; rfl
    go_enter Tryd.func37, Tryd.ntmps37
    go_wp2_with (first | (go_at_call 57; refine (branch b c _ H.out ok).mono ?_; rintro e w1 ⟨rfl, h1, t1⟩))
    go_returns
    exact ⟨rfl, by rw [HE.out]; exact h1, t1⟩
  · rw [e] at c6
    have HE : Hid (c.clk v = c.jp c.tg) := by show _ = _; unfold Cp.clk; rw [e]; rfl
    go_enter Tryd.func37, Tryd.ntmps37
    go_wp2_with (first | (go_at_call 58; refine (target b c _ H.out ok.r.pc ok.lo).mono ?_; rintro e w' ⟨rfl, q, rfl⟩) | (go_at_call 52; refine (jump b c.tg c _ (H.out.draws _)).mono ?_; rintro e w1 ⟨rfl, h1, t1⟩))
    go_returns
    exact ⟨rfl, by rw [HE.out]; exact h1, (Turn.draws (Turn.refl b _) _).trans t1⟩
  · rw [e] at c6
    have HE : Hid (c.clk v = c) := by show _ = _; unfold Cp.clk; rw [e]; rfl
    go_enter Tryd.func37, Tryd.ntmps37
    go_wp2
    go_returns
    exact ⟨rfl, by rw [HE.out]; exact H.out, Turn.refl b _⟩

end Go.Proofs.YtelmohajdmcnmaaDoor.Mi
