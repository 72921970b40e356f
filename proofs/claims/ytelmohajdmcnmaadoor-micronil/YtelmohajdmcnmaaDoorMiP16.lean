/- A cycle's end, step 16. -/
import Derived.Test.YtelmohajdmcnmaaDoorMiA
namespace Go.Proofs.YtelmohajdmcnmaaDoor.Mi
open Go.RowKit Alu Ex
set_option linter.unusedVariables false


set_option maxRecDepth 100000 in
set_option maxHeartbeats 8000000 in
theorem endPlace_16 (b v : Nat) (c : Cp) (w : World) (h : Row w b c.cells) (ok : c.ok) (hv : v < 256) (e : c.st = 16) : Calls Tryd.prog 38 #[.pointer (some ⟨b, 0, none⟩), .int .u8 (v : Int)] w fun e w' => e = .returned (.tuple #[]) ∧ Row w' b (c.clk v).cells ∧ Turn b w w' := by
  have H : Hid (Row w b c.cells) := h
  have c6 := h.at_ 6 _ rfl
  have c7 := h.at_ 7 _ rfl
  have c15 := h.at_ 15 _ rfl
  clear h
  have hf := H.out.fz
  have had := ok.ad
  rw [e] at c6
  have HE : Hid (c.clk v = (c.sl v c.hi).rd (jn ((c.ad % 256 + 1) % 256) (c.ad / 256)) 17) := by show _ = _; unfold Cp.clk; rw [e]; rfl
  have had := ok.ad
  obtain ⟨X, hX⟩ : ∃ X, (c.ad % 256 + 1) % 256 = X := ⟨_, rfl⟩
  obtain ⟨Y, hY⟩ : ∃ Y, c.ad / 256 = Y := ⟨_, rfl⟩
  have hX2 : X < 256 := by omega
  have hY2 : Y < 256 := by omega
  have HXI : Hid (((c.ad : Int) + 1) % 256 = (X : Int)) := by show _ = _; omega
  have HYI : Hid ((c.ad : Int) / 256 = (Y : Int)) := by show _ = _; omega
  rw [hX, hY] at HE
  clear hX hY
  obtain ⟨J, hJ⟩ : ∃ J, jn X Y = J := ⟨_, rfl⟩
  have HJ : Hid (∀ w, Calls Tryd.prog 61 #[.int .u8 (X : Int), .int .u16 (Y : Int)] w fun e w' => e = .returned (.int .u16 (J : Int)) ∧ w' = w) := fun w => hJ ▸ join16 X Y w hX2 hY2
  rw [hJ] at HE
  clear hJ
  go_enter Tryd.func38, Tryd.ntmps38
  go_wp2_with (go_at_call 61; fail)
  rw [HXI.out, HYI.out]
  refine (HJ.out _).mono ?_
  rintro e w' ⟨rfl, rfl⟩
  go_wp2_with (go_at_call 48; refine (read b J 17 (c.sl v c.hi) _ ((H.out.put 15 _).to rfl)).mono ?_; rintro e w1 ⟨rfl, h1, t1⟩)
  go_returns
  exact ⟨rfl, by rw [HE.out]; exact h1, (Turn.set (Turn.refl b _) _ _).trans t1⟩

end Go.Proofs.YtelmohajdmcnmaaDoor.Mi
