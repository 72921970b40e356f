/- A cycle's end, step 17. -/
import Derived.Test.YtelmohajdmcnmaaDoorMiA
namespace Go.Proofs.YtelmohajdmcnmaaDoor.Mi
open Go.RowKit Alu Ex
set_option linter.unusedVariables false


set_option maxRecDepth 100000 in
set_option maxHeartbeats 8000000 in
theorem endPlace_17 (b v : Nat) (c : Cp) (w : World) (h : Row w b c.cells) (ok : c.ok) (hv : v < 256) (e : c.st = 17) : Calls Tryd.prog 38 #[.pointer (some ⟨b, 0, none⟩), .int .u8 (v : Int)] w fun e w' => e = .returned (.tuple #[]) ∧ Row w' b (c.clk v).cells ∧ Turn b w w' := by
  have H : Hid (Row w b c.cells) := h
  have c6 := h.at_ 6 _ rfl
  have c16 := h.at_ 16 _ rfl
  clear h
  have hf := H.out.fz
  rw [e] at c6
  have HE : Hid (c.clk v = (c.sl c.lo v).rc) := by show _ = _; unfold Cp.clk; rw [e]; rfl
  go_enter Tryd.func38, Tryd.ntmps38
  go_wp2_with (first | (go_at_call 62; refine (reach b (c.sl c.lo v) _ ((H.out.put 16 _).to rfl) ⟨ok.r, ok.st, ok.ad, ok.da, ok.op, ok.md, ok.kd0, ok.kd1, ok.lo, hv, ok.rb⟩).mono ?_; rintro e w1 ⟨rfl, h1, t1⟩))
  go_returns
  exact ⟨rfl, by rw [HE.out]; exact h1, (Turn.set (Turn.refl b _) _ _).trans t1⟩

end Go.Proofs.YtelmohajdmcnmaaDoor.Mi
