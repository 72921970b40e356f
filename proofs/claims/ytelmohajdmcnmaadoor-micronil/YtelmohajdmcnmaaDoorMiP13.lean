/- A cycle's end, step 13. -/
import Derived.Test.YtelmohajdmcnmaaDoorMiA
namespace Go.Proofs.YtelmohajdmcnmaaDoor.Mi
open Go.RowKit Alu Ex
set_option linter.unusedVariables false


set_option maxRecDepth 100000 in
set_option maxHeartbeats 8000000 in
theorem endPlace_13 (b v : Nat) (c : Cp) (w : World) (h : Row w b c.cells) (ok : c.ok) (hv : v < 256) (e : c.st = 13) : Calls Tryd.prog 38 #[.pointer (some ⟨b, 0, none⟩), .int .u8 (v : Int)] w fun e w' => e = .returned (.tuple #[]) ∧ Row w' b (c.clk v).cells ∧ Turn b w w' := by
  have H : Hid (Row w b c.cells) := h
  have c5 := h.at_ 5 _ rfl
  have c6 := h.at_ 6 _ rfl
  have c12 := h.at_ 12 _ rfl
  have c15 := h.at_ 15 _ rfl
  have c16 := h.at_ 16 _ rfl
  clear h
  have hf := H.out.fz
  have hpc := ok.r.pc
  have HPC : Hid (((c.r.pc : Int) + 1) % 65536 = (((c.r.pc + 1) % 65536 : Nat) : Int)) := up16 _ hpc
  have HPW : Hid (IntKind.u16.wrap ((c.r.pc : Int) + 1) = (((c.r.pc + 1) % 65536 : Nat) : Int)) := up16w _ hpc
  rw [e] at c6
  have HE : Hid (c.clk v = (if c.md = 12 then (c.sr c.r.nx).rd (jn c.lo v) 16 else ((c.sr c.r.nx).sl c.lo v).rc)) := by show _ = _; unfold Cp.clk; rw [e]; rfl
  by_cases hm : c.md = 12
  · have HE2 : Hid (c.clk v = (c.sr c.r.nx).rd (jn c.lo v) 16) := by show _ = _; rw [HE.out, if_pos hm]
    rw [hm] at c12
    go_enter Tryd.func38, Tryd.ntmps38
    go_wp2_with (first | (go_at_call 53; refine (join8 c.lo v _ ok.lo hv).mono ?_; rintro e w' ⟨rfl, rfl⟩) | (go_at_call 48; (first | rw [HPC.out] | rw [HPW.out]); refine (read b (jn c.lo v) 16 (c.sr c.r.nx) _ ((H.out.put 5 _).to rfl)).mono ?_; rintro e w1 ⟨rfl, h1, t1⟩))
    go_returns
    exact ⟨rfl, by rw [HE2.out]; exact h1, (Turn.set (Turn.refl b _) _ _).trans t1⟩
  · have HE2 : Hid (c.clk v = ((c.sr c.r.nx).sl c.lo v).rc) := by show _ = _; rw [HE.out, if_neg hm]
    have hmb : ((c.md : Int) == (12 : Int)) = false := by rw [beq_eq_false_iff_ne]; omega
    go_enter Tryd.func38, Tryd.ntmps38
    go_wp2_with (first | (go_at_call 62; (first | rw [HPC.out] | rw [HPW.out]); refine (reach b ((c.sr c.r.nx).sl c.lo v) _ (((H.out.put 5 _).put 16 _).to rfl) ⟨⟨ok.r.a, ok.r.x, ok.r.y, ok.r.s, ok.r.p, (Nat.mod_lt _ (by decide) : (c.r.pc + 1) % 65536 < 65536)⟩, ok.st, ok.ad, ok.da, ok.op, ok.md, ok.kd0, ok.kd1, ok.lo, hv, ok.rb⟩).mono ?_; rintro e w1 ⟨rfl, h1, t1⟩))
    go_returns
    exact ⟨rfl, by rw [HE2.out]; exact h1, (Turn.set (Turn.set (Turn.refl b _) _ _) _ _).trans t1⟩

end Go.Proofs.YtelmohajdmcnmaaDoor.Mi
