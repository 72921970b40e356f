/- A cycle's end, step 19. -/
import Derived.Test.YtelmohajdmcnmaaDoorMiA
namespace Go.Proofs.YtelmohajdmcnmaaDoor.Mi
open Go.RowKit Alu Ex
set_option linter.unusedVariables false


set_option maxRecDepth 100000 in
set_option maxHeartbeats 8000000 in
theorem endPlace_19 (b v : Nat) (c : Cp) (w : World) (h : Row w b c.cells) (ok : c.ok) (hv : v < 256) (e : c.st = 19) : Calls Tryd.prog 38 #[.pointer (some ⟨b, 0, none⟩), .int .u8 (v : Int)] w fun e w' => e = .returned (.tuple #[]) ∧ Row w' b (c.clk v).cells ∧ Turn b w w' := by
  have H : Hid (Row w b c.cells) := h
  have c0 := h.at_ 0 _ rfl
  have c1 := h.at_ 1 _ rfl
  have c2 := h.at_ 2 _ rfl
  have c3 := h.at_ 3 _ rfl
  have c4 := h.at_ 4 _ rfl
  have c5 := h.at_ 5 _ rfl
  have c6 := h.at_ 6 _ rfl
  have c11 := h.at_ 11 _ rfl
  clear h
  have hf := H.out.fz
  have RD : Hid (∀ w : World, Calls Tryd.prog 27 #[.string c.nm, .agg #[.int .u8 (c.r.a : Int), .int .u8 (c.r.x : Int), .int .u8 (c.r.y : Int), .int .u8 (c.r.s : Int), .int .u8 (c.r.p : Int), .int .u16 (c.r.pc : Int)], .int .u8 (v : Int)] w fun e w' => e = .returned (.agg #[.int .u8 ((Ex.rd c.nm.toList c.r v).a : Int), .int .u8 ((Ex.rd c.nm.toList c.r v).x : Int), .int .u8 ((Ex.rd c.nm.toList c.r v).y : Int), .int .u8 ((Ex.rd c.nm.toList c.r v).s : Int), .int .u8 ((Ex.rd c.nm.toList c.r v).p : Int), .int .u16 ((Ex.rd c.nm.toList c.r v).pc : Int)]) ∧ Below w.heap.size w w') := fun w => Ex.Read c.nm v c.r hv w ok.r
  rw [e] at c6
  have HE : Hid (c.clk v = c.fi (Ex.rd c.nm.toList c.r v)) := by show _ = _; unfold Cp.clk; rw [e]; rfl
  go_enter Tryd.func38, Tryd.ntmps38
  generalize Ex.rd c.nm.toList c.r v = q at RD HE
  go_wp2
  go_region_with (first
    | (go_at_call 27; refine (RD.out _).mono ?_; rintro e w1 ⟨rfl, hB1⟩; have HR1 : Hid (Row w1 b c.cells) := H.out.drew.below c.pos hB1; have hT1 : Hid (Turn b _ w1) := (Turn.draws (Turn.refl b _) 1).trans (Turn.of_below hB1))
    | (go_at_call 63; refine (finish b c q _ HR1.out).mono ?_; rintro e w2 ⟨rfl, h2, t2⟩))
  all_goals go_wp2
  all_goals go_returns
  all_goals exact ⟨rfl, by rw [HE.out]; exact h2, hT1.out.trans t2⟩

end Go.Proofs.YtelmohajdmcnmaaDoor.Mi
