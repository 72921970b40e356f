/- A cycle's end, step 14. -/
import Derived.Test.YtelmohajdmcnmaaDoorMiA
namespace Go.Proofs.YtelmohajdmcnmaaDoor.Mi
open Go.RowKit Alu Ex
set_option linter.unusedVariables false


set_option maxRecDepth 100000 in
set_option maxHeartbeats 8000000 in
theorem endPlace_14 (b v : Nat) (c : Cp) (w : World) (h : Row w b c.cells) (ok : c.ok) (hv : v < 256) (e : c.st = 14) : Calls Tryd.prog 38 #[.pointer (some ⟨b, 0, none⟩), .int .u8 (v : Int)] w fun e w' => e = .returned (.tuple #[]) ∧ Row w' b (c.clk v).cells ∧ Turn b w w' := by
  have H : Hid (Row w b c.cells) := h
  have c6 := h.at_ 6 _ rfl
  have c15 := h.at_ 15 _ rfl
  clear h
  have hf := H.out.fz
  have hpc := ok.r.pc
  have hs := ok.r.s
  have had := ok.ad
  have hix := ix_lt c ok
  have hlo := ok.lo
  have hhi := ok.hi
  have hsm : c.sm < 256 := Nat.mod_lt _ (by decide)
  have HSC : Hid (((c.lo : Int) + (c.ix : Int)) % 256 = (c.sm : Int)) := by show _ = _; unfold Cp.sm; omega
  have HSW : Hid (IntKind.u8.wrap ((c.lo : Int) + (c.ix : Int)) = (c.sm : Int)) := by show _ = _; rw [IntKind.wrap_u8]; unfold Cp.sm; omega
  rw [e] at c6
  have HE : Hid (c.clk v = c.ac (jn c.sm 0)) := by show _ = _; unfold Cp.clk; rw [e]; rfl
  go_enter Tryd.func38, Tryd.ntmps38
  go_wp2
  go_region_with (first
    | (go_at_call 60; refine (index b c _ H.out.drew ok.md).mono ?_; rintro e w' ⟨rfl, rfl⟩)
    | (go_at_call 53; (first | rw [HSC.out] | rw [HSW.out]); refine (join8 c.sm 0 _ hsm (by decide)).mono ?_; rintro e w' ⟨rfl, rfl⟩)
    | (go_at_call 59; refine (access b (jn c.sm 0) c _ H.out.drew ok (jn_lt hsm (by decide))).mono ?_; rintro e w1 ⟨rfl, h1, t1⟩))
  all_goals go_wp2
  all_goals go_returns
  all_goals exact ⟨rfl, by rw [HE.out]; exact h1, (Turn.draws (Turn.refl b _) 1).trans t1⟩

end Go.Proofs.YtelmohajdmcnmaaDoor.Mi
