/- A cycle's end, step 22. -/
import Derived.Test.YtelmohajdmcnmaaDoorMiA
namespace Go.Proofs.YtelmohajdmcnmaaDoor.Mi
open Go.RowKit Alu Ex
set_option linter.unusedVariables false


set_option maxRecDepth 100000 in
set_option maxHeartbeats 8000000 in
theorem endPlace_22 (b v : Nat) (c : Cp) (w : World) (h : Row w b c.cells) (ok : c.ok) (hv : v < 256) (e : c.st = 22) : Calls Tryd.prog 38 #[.pointer (some ⟨b, 0, none⟩), .int .u8 (v : Int)] w fun e w' => e = .returned (.tuple #[]) ∧ Row w' b (c.clk v).cells ∧ Turn b w w' := by
  have H : Hid (Row w b c.cells) := h
  have c6 := h.at_ 6 _ rfl
  have c17 := h.at_ 17 _ rfl
  have c18 := h.at_ 18 _ rfl
  have c19 := h.at_ 19 _ rfl
  have c20 := h.at_ 20 _ rfl
  have c21 := h.at_ 21 _ rfl
  have c22 := h.at_ 22 _ rfl
  clear h
  have hf := H.out.fz
  rw [e] at c6
  have HE : Hid (c.clk v = c.fi c.rb) := by show _ = _; unfold Cp.clk; rw [e]; rfl
  go_enter Tryd.func38, Tryd.ntmps38
  go_wp2_with (first | (go_at_call 63; refine (finish b c c.rb _ H.out).mono ?_; rintro e w1 ⟨rfl, h1, t1⟩))
  go_returns
  exact ⟨rfl, by rw [HE.out]; exact h1, t1⟩

end Go.Proofs.YtelmohajdmcnmaaDoor.Mi
