/- A cycle's end: the stack. -/
import Derived.Test.YtelmohajdmcnmaaDoorMiA
namespace Go.Proofs.YtelmohajdmcnmaaDoor.Mi
open Go.RowKit Alu Ex
set_option linter.unusedVariables false

set_option maxRecDepth 100000 in
set_option maxHeartbeats 8000000 in
theorem endStack_23 (b v : Nat) (c : Cp) (w : World) (h : Row w b c.cells) (ok : c.ok) (hv : v < 256) (e : c.st = 23) : Calls Tryd.prog 39 #[.pointer (some ⟨b, 0, none⟩), .int .u8 (v : Int)] w fun e w' => e = .returned (.tuple #[]) ∧ Row w' b (c.clk v).cells ∧ Turn b w w' := by
  have H : Hid (Row w b c.cells) := h
  have c6 := h.at_ 6 _ rfl
  clear h
  have hf := H.out.fz
  rw [e] at c6
  have HE : Hid (c.clk v = c.pk) := by show _ = _; unfold Cp.clk; rw [e]; rfl
  go_enter Tryd.func39, Tryd.ntmps39
  go_wp2_with (first | (go_at_call 65; refine (endPeeking b c _ H.out ok).mono ?_; rintro e w1 ⟨rfl, h1, t1⟩))
  go_returns
  exact ⟨rfl, by rw [HE.out]; exact h1, t1⟩

set_option maxRecDepth 100000 in
set_option maxHeartbeats 8000000 in
theorem endStack_24 (b v : Nat) (c : Cp) (w : World) (h : Row w b c.cells) (ok : c.ok) (hv : v < 256) (e : c.st = 24) : Calls Tryd.prog 39 #[.pointer (some ⟨b, 0, none⟩), .int .u8 (v : Int)] w fun e w' => e = .returned (.tuple #[]) ∧ Row w' b (c.clk v).cells ∧ Turn b w w' := by
  have H : Hid (Row w b c.cells) := h
  have c3 := h.at_ 3 _ rfl
  have c6 := h.at_ 6 _ rfl
  clear h
  have hf := H.out.fz
  have hs := ok.r.s
  have HDC : Hid (((c.r.s : Int) - 1) % 256 = (((c.r.s + 255) % 256 : Nat) : Int)) := dn8 _ hs
  have HDW : Hid (IntKind.u8.wrap ((c.r.s : Int) - 1) = (((c.r.s + 255) % 256 : Nat) : Int)) := dn8w _ hs
  rw [e] at c6
  have HE : Hid (c.clk v = (c.sr c.r.dn).ft) := by show _ = _; unfold Cp.clk; rw [e]; rfl
  go_enter Tryd.func39, Tryd.ntmps39
  go_wp2_with (first | (go_at_call 36; (first | rw [HDC.out] | rw [HDW.out]); refine (fetch b (c.sr c.r.dn) _ ((H.out.put 3 _).to rfl)).mono ?_; rintro e w1 ⟨rfl, h1, t1⟩))
  go_returns
  exact ⟨rfl, by rw [HE.out]; exact h1, (Turn.set (Turn.refl b _) _ _).trans t1⟩

set_option maxRecDepth 100000 in
set_option maxHeartbeats 8000000 in
theorem endStack_25 (b v : Nat) (c : Cp) (w : World) (h : Row w b c.cells) (ok : c.ok) (hv : v < 256) (e : c.st = 25) : Calls Tryd.prog 39 #[.pointer (some ⟨b, 0, none⟩), .int .u8 (v : Int)] w fun e w' => e = .returned (.tuple #[]) ∧ Row w' b (c.clk v).cells ∧ Turn b w w' := by
  have H : Hid (Row w b c.cells) := h
  have c3 := h.at_ 3 _ rfl
  have c5 := h.at_ 5 _ rfl
  have c6 := h.at_ 6 _ rfl
  clear h
  have hf := H.out.fz
  have hs := ok.r.s
  have HDC : Hid (((c.r.s : Int) - 1) % 256 = (((c.r.s + 255) % 256 : Nat) : Int)) := dn8 _ hs
  have HDW : Hid (IntKind.u8.wrap ((c.r.s : Int) - 1) = (((c.r.s + 255) % 256 : Nat) : Int)) := dn8w _ hs
  have HPM : Hid ((c.r.pc : Int) % 256 = ((c.r.pc % 256 : Nat) : Int)) := by show _ = _; omega
  rw [e] at c6
  have HE : Hid (c.clk v = (c.sr c.r.dn).ph (c.r.pc % 256) 26) := by show _ = _; unfold Cp.clk; rw [e]; rfl
  go_enter Tryd.func39, Tryd.ntmps39
  go_wp2_with (first | (go_at_call 66; (first | rw [HDC.out] | rw [HDW.out]); (first | rw [HPM.out] | rw [HPM.out]); refine (push b (c.r.pc % 256) 26 (c.sr c.r.dn) _ ((H.out.put 3 _).to rfl) (dn_lt _)).mono ?_; rintro e w1 ⟨rfl, h1, t1⟩))
  go_returns
  exact ⟨rfl, by rw [HE.out]; exact h1, (Turn.set (Turn.refl b _) _ _).trans t1⟩

set_option maxRecDepth 100000 in
set_option maxHeartbeats 8000000 in
theorem endStack_26 (b v : Nat) (c : Cp) (w : World) (h : Row w b c.cells) (ok : c.ok) (hv : v < 256) (e : c.st = 26) : Calls Tryd.prog 39 #[.pointer (some ⟨b, 0, none⟩), .int .u8 (v : Int)] w fun e w' => e = .returned (.tuple #[]) ∧ Row w' b (c.clk v).cells ∧ Turn b w w' := by
  have H : Hid (Row w b c.cells) := h
  have c3 := h.at_ 3 _ rfl
  have c4 := h.at_ 4 _ rfl
  have c5 := h.at_ 5 _ rfl
  have c6 := h.at_ 6 _ rfl
  have c13 := h.at_ 13 _ rfl
  clear h
  have hf := H.out.fz
  have hs := ok.r.s
  have hp := ok.r.p
  have HDC : Hid (((c.r.s : Int) - 1) % 256 = (((c.r.s + 255) % 256 : Nat) : Int)) := dn8 _ hs
  have HDW : Hid (IntKind.u8.wrap ((c.r.s : Int) - 1) = (((c.r.s + 255) % 256 : Nat) : Int)) := dn8w _ hs
  have HO16 : Hid (bits .or .u8 (c.r.p : Int) 16 = ((W c.r.p 16 true : Nat) : Int)) := or16 _ hp
  rw [e] at c6
  have HE : Hid (c.clk v = (if c.kd = 8 then (c.sr c.r.dn).rd c.r.pc 28 else (c.sr c.r.dn).ph (W c.r.p 16 true) 27)) := by show _ = _; unfold Cp.clk; rw [e]; rfl
  by_cases hk : c.kd = 8
  · have HE2 : Hid (c.clk v = (c.sr c.r.dn).rd c.r.pc 28) := by show _ = _; rw [HE.out, if_pos hk]
    rw [hk] at c13
    go_enter Tryd.func39, Tryd.ntmps39
    go_wp2_with (first | (go_at_call 48; (first | rw [HDC.out] | rw [HDW.out]); refine (read b c.r.pc 28 (c.sr c.r.dn) _ ((H.out.put 3 _).to rfl)).mono ?_; rintro e w1 ⟨rfl, h1, t1⟩))
    go_returns
    exact ⟨rfl, by rw [HE2.out]; exact h1, (Turn.set (Turn.refl b _) _ _).trans t1⟩
  · have HE2 : Hid (c.clk v = (c.sr c.r.dn).ph (W c.r.p 16 true) 27) := by show _ = _; rw [HE.out, if_neg hk]
    have hkb : (c.kd == (8 : Int)) = false := by simpa using hk
    go_enter Tryd.func39, Tryd.ntmps39
    go_wp2_with (first | (go_at_call 66; (first | rw [HDC.out] | rw [HDW.out]); (first | rw [HO16.out] | rw [HO16.out]); refine (push b (W c.r.p 16 true) 27 (c.sr c.r.dn) _ ((H.out.put 3 _).to rfl) (dn_lt _)).mono ?_; rintro e w1 ⟨rfl, h1, t1⟩))
    go_returns
    exact ⟨rfl, by rw [HE2.out]; exact h1, (Turn.set (Turn.refl b _) _ _).trans t1⟩

set_option maxRecDepth 100000 in
set_option maxHeartbeats 8000000 in
theorem endStack_27 (b v : Nat) (c : Cp) (w : World) (h : Row w b c.cells) (ok : c.ok) (hv : v < 256) (e : c.st = 27) : Calls Tryd.prog 39 #[.pointer (some ⟨b, 0, none⟩), .int .u8 (v : Int)] w fun e w' => e = .returned (.tuple #[]) ∧ Row w' b (c.clk v).cells ∧ Turn b w w' := by
  have H : Hid (Row w b c.cells) := h
  have c3 := h.at_ 3 _ rfl
  have c6 := h.at_ 6 _ rfl
  clear h
  have hf := H.out.fz
  have hs := ok.r.s
  have HDC : Hid (((c.r.s : Int) - 1) % 256 = (((c.r.s + 255) % 256 : Nat) : Int)) := dn8 _ hs
  have HDW : Hid (IntKind.u8.wrap ((c.r.s : Int) - 1) = (((c.r.s + 255) % 256 : Nat) : Int)) := dn8w _ hs
  rw [e] at c6
  have HE : Hid (c.clk v = (c.sr c.r.dn).rd 65534 5) := by show _ = _; unfold Cp.clk; rw [e]; rfl
  go_enter Tryd.func39, Tryd.ntmps39
  go_wp2_with (first | (go_at_call 48; (first | rw [HDC.out] | rw [HDW.out]); refine (read b 65534 5 (c.sr c.r.dn) _ ((H.out.put 3 _).to rfl)).mono ?_; rintro e w1 ⟨rfl, h1, t1⟩))
  go_returns
  exact ⟨rfl, by rw [HE.out]; exact h1, (Turn.set (Turn.refl b _) _ _).trans t1⟩

set_option maxRecDepth 100000 in
set_option maxHeartbeats 8000000 in
theorem endStack_28 (b v : Nat) (c : Cp) (w : World) (h : Row w b c.cells) (ok : c.ok) (hv : v < 256) (e : c.st = 28) : Calls Tryd.prog 39 #[.pointer (some ⟨b, 0, none⟩), .int .u8 (v : Int)] w fun e w' => e = .returned (.tuple #[]) ∧ Row w' b (c.clk v).cells ∧ Turn b w w' := by
  have H : Hid (Row w b c.cells) := h
  have c6 := h.at_ 6 _ rfl
  have c15 := h.at_ 15 _ rfl
  clear h
  have hf := H.out.fz
  rw [e] at c6
  have HE : Hid (c.clk v = c.jp (jn c.lo v)) := by show _ = _; unfold Cp.clk; rw [e]; rfl
  go_enter Tryd.func39, Tryd.ntmps39
  go_wp2_with (first | (go_at_call 53; refine (join8 c.lo v _ ok.lo hv).mono ?_; rintro e w' ⟨rfl, rfl⟩) | (go_at_call 52; refine (jump b (jn c.lo v) c _ H.out).mono ?_; rintro e w1 ⟨rfl, h1, t1⟩))
  go_returns
  exact ⟨rfl, by rw [HE.out]; exact h1, t1⟩

set_option maxRecDepth 100000 in
set_option maxHeartbeats 8000000 in
theorem endStack_29 (b v : Nat) (c : Cp) (w : World) (h : Row w b c.cells) (ok : c.ok) (hv : v < 256) (e : c.st = 29) : Calls Tryd.prog 39 #[.pointer (some ⟨b, 0, none⟩), .int .u8 (v : Int)] w fun e w' => e = .returned (.tuple #[]) ∧ Row w' b (c.clk v).cells ∧ Turn b w w' := by
  have H : Hid (Row w b c.cells) := h
  have c3 := h.at_ 3 _ rfl
  have c6 := h.at_ 6 _ rfl
  clear h
  have hf := H.out.fz
  have hs := ok.r.s
  have HUC : Hid (((c.r.s : Int) + 1) % 256 = (((c.r.s + 1) % 256 : Nat) : Int)) := up8 _ hs
  have HUW : Hid (IntKind.u8.wrap ((c.r.s : Int) + 1) = (((c.r.s + 1) % 256 : Nat) : Int)) := up8w _ hs
  rw [e] at c6
  have HE : Hid (c.clk v = (c.sr c.r.up).ur v) := by show _ = _; unfold Cp.clk; rw [e]; rfl
  go_enter Tryd.func39, Tryd.ntmps39
  go_wp2_with (first | (go_at_call 67; (first | rw [HUC.out] | rw [HUW.out]); refine (pullRegister b v (c.sr c.r.up) _ ((H.out.put 3 _).to rfl) ⟨⟨ok.r.a, ok.r.x, ok.r.y, up_lt c.r, ok.r.p, ok.r.pc⟩, ok.st, ok.ad, ok.da, ok.op, ok.md, ok.kd0, ok.kd1, ok.lo, ok.hi, ok.rb⟩ hv).mono ?_; rintro e w1 ⟨rfl, h1, t1⟩))
  go_returns
  exact ⟨rfl, by rw [HE.out]; exact h1, (Turn.set (Turn.refl b _) _ _).trans t1⟩

set_option maxRecDepth 100000 in
set_option maxHeartbeats 8000000 in
theorem endStack_30 (b v : Nat) (c : Cp) (w : World) (h : Row w b c.cells) (ok : c.ok) (hv : v < 256) (e : c.st = 30) : Calls Tryd.prog 39 #[.pointer (some ⟨b, 0, none⟩), .int .u8 (v : Int)] w fun e w' => e = .returned (.tuple #[]) ∧ Row w' b (c.clk v).cells ∧ Turn b w w' := by
  have H : Hid (Row w b c.cells) := h
  have c3 := h.at_ 3 _ rfl
  have c4 := h.at_ 4 _ rfl
  have c6 := h.at_ 6 _ rfl
  clear h
  have hf := H.out.fz
  have hs := ok.r.s
  have HUC : Hid (((c.r.s : Int) + 1) % 256 = (((c.r.s + 1) % 256 : Nat) : Int)) := up8 _ hs
  have HUW : Hid (IntKind.u8.wrap ((c.r.s : Int) + 1) = (((c.r.s + 1) % 256 : Nat) : Int)) := up8w _ hs
  have HCF : Hid (∀ w : World, Calls Tryd.prog 50 #[.int .u8 (v : Int)] w fun e w' => e = .returned (.int .u8 ((clF v : Nat) : Int)) ∧ w' = w) := fun w => cleanFlags v w hv
  rw [e] at c6
  have HE : Hid (c.clk v = (c.sr (c.r.up.fl (clF v))).pl 31) := by show _ = _; unfold Cp.clk; rw [e]; rfl
  go_enter Tryd.func39, Tryd.ntmps39
  go_wp2_with (first | (go_at_call 50; refine (HCF.out _).mono ?_; rintro e w' ⟨rfl, rfl⟩) | (go_at_call 68; (first | rw [HUC.out] | rw [HUW.out]); refine (pull b 31 (c.sr (c.r.up.fl (clF v))) _ (((H.out.put 3 _).put 4 _).to rfl) (up_lt c.r)).mono ?_; rintro e w1 ⟨rfl, h1, t1⟩))
  go_returns
  exact ⟨rfl, by rw [HE.out]; exact h1, (Turn.set (Turn.set (Turn.refl b _) _ _) _ _).trans t1⟩

set_option maxRecDepth 100000 in
set_option maxHeartbeats 8000000 in
theorem endStack_31 (b v : Nat) (c : Cp) (w : World) (h : Row w b c.cells) (ok : c.ok) (hv : v < 256) (e : c.st = 31) : Calls Tryd.prog 39 #[.pointer (some ⟨b, 0, none⟩), .int .u8 (v : Int)] w fun e w' => e = .returned (.tuple #[]) ∧ Row w' b (c.clk v).cells ∧ Turn b w w' := by
  have H : Hid (Row w b c.cells) := h
  have c3 := h.at_ 3 _ rfl
  have c6 := h.at_ 6 _ rfl
  have c15 := h.at_ 15 _ rfl
  clear h
  have hf := H.out.fz
  have hs := ok.r.s
  have HUC : Hid (((c.r.s : Int) + 1) % 256 = (((c.r.s + 1) % 256 : Nat) : Int)) := up8 _ hs
  have HUW : Hid (IntKind.u8.wrap ((c.r.s : Int) + 1) = (((c.r.s + 1) % 256 : Nat) : Int)) := up8w _ hs
  rw [e] at c6
  have HE : Hid (c.clk v = ((c.sr c.r.up).sl v c.hi).pl 32) := by show _ = _; unfold Cp.clk; rw [e]; rfl
  go_enter Tryd.func39, Tryd.ntmps39
  go_wp2_with (first | (go_at_call 68; (first | rw [HUC.out] | rw [HUW.out]); refine (pull b 32 ((c.sr c.r.up).sl v c.hi) _ (((H.out.put 3 _).put 15 _).to rfl) (up_lt c.r)).mono ?_; rintro e w1 ⟨rfl, h1, t1⟩))
  go_returns
  exact ⟨rfl, by rw [HE.out]; exact h1, (Turn.set (Turn.set (Turn.refl b _) _ _) _ _).trans t1⟩

set_option maxRecDepth 100000 in
set_option maxHeartbeats 8000000 in
theorem endStack_32 (b v : Nat) (c : Cp) (w : World) (h : Row w b c.cells) (ok : c.ok) (hv : v < 256) (e : c.st = 32) : Calls Tryd.prog 39 #[.pointer (some ⟨b, 0, none⟩), .int .u8 (v : Int)] w fun e w' => e = .returned (.tuple #[]) ∧ Row w' b (c.clk v).cells ∧ Turn b w w' := by
  have H : Hid (Row w b c.cells) := h
  have c3 := h.at_ 3 _ rfl
  have c6 := h.at_ 6 _ rfl
  have c15 := h.at_ 15 _ rfl
  clear h
  have hf := H.out.fz
  have hs := ok.r.s
  have HUC : Hid (((c.r.s : Int) + 1) % 256 = (((c.r.s + 1) % 256 : Nat) : Int)) := up8 _ hs
  have HUW : Hid (IntKind.u8.wrap ((c.r.s : Int) + 1) = (((c.r.s + 1) % 256 : Nat) : Int)) := up8w _ hs
  rw [e] at c6
  have HE : Hid (c.clk v = (c.sr c.r.up).cb (jn c.lo v)) := by show _ = _; unfold Cp.clk; rw [e]; rfl
  go_enter Tryd.func39, Tryd.ntmps39
  go_wp2_with (first | (go_at_call 53; refine (join8 c.lo v _ ok.lo hv).mono ?_; rintro e w' ⟨rfl, rfl⟩) | (go_at_call 69; (first | rw [HUC.out] | rw [HUW.out]); refine (comeBack b (jn c.lo v) (c.sr c.r.up) _ ((H.out.put 3 _).to rfl) ⟨⟨ok.r.a, ok.r.x, ok.r.y, up_lt c.r, ok.r.p, ok.r.pc⟩, ok.st, ok.ad, ok.da, ok.op, ok.md, ok.kd0, ok.kd1, ok.lo, ok.hi, ok.rb⟩ (jn_lt ok.lo hv)).mono ?_; rintro e w1 ⟨rfl, h1, t1⟩))
  go_returns
  exact ⟨rfl, by rw [HE.out]; exact h1, (Turn.set (Turn.refl b _) _ _).trans t1⟩

set_option maxRecDepth 100000 in
set_option maxHeartbeats 8000000 in
theorem endStack_33 (b v : Nat) (c : Cp) (w : World) (h : Row w b c.cells) (ok : c.ok) (hv : v < 256) (e : c.st = 33) : Calls Tryd.prog 39 #[.pointer (some ⟨b, 0, none⟩), .int .u8 (v : Int)] w fun e w' => e = .returned (.tuple #[]) ∧ Row w' b (c.clk v).cells ∧ Turn b w w' := by
  have H : Hid (Row w b c.cells) := h
  have c5 := h.at_ 5 _ rfl
  have c6 := h.at_ 6 _ rfl
  clear h
  have hf := H.out.fz
  have hpc := ok.r.pc
  have HPC : Hid (((c.r.pc : Int) + 1) % 65536 = (((c.r.pc + 1) % 65536 : Nat) : Int)) := up16 _ hpc
  have HPW : Hid (IntKind.u16.wrap ((c.r.pc : Int) + 1) = (((c.r.pc + 1) % 65536 : Nat) : Int)) := up16w _ hpc
  rw [e] at c6
  have HE : Hid (c.clk v = c.jp ((c.r.pc + 1) % 65536)) := by show _ = _; unfold Cp.clk; rw [e]; rfl
  go_enter Tryd.func39, Tryd.ntmps39
  go_wp2_with (first | (go_at_call 52; (first | rw [HPC.out] | rw [HPW.out]); refine (jump b ((c.r.pc + 1) % 65536) c _ H.out).mono ?_; rintro e w1 ⟨rfl, h1, t1⟩))
  go_returns
  exact ⟨rfl, by rw [HE.out]; exact h1, t1⟩


end Go.Proofs.YtelmohajdmcnmaaDoor.Mi
