/- What a byte that is read does: comparisons. -/
import Derived.Test.YtelmohajdmcnmaaDoorEx2
import Derived.Deep.RegionWith
namespace Go.Proofs.YtelmohajdmcnmaaDoor.Ex
open Go.RowKit Alu
set_option linter.unusedVariables false

set_option maxRecDepth 100000 in
set_option maxHeartbeats 2000000 in
theorem readTwice_SBX (b m : Nat) (s : ByteArray) (r : Rg) (w : World) (hs : s.toList = [83, 66, 88]) (h : RAt w b 0 r) (hr : r.ok) (hm : m < 256) : Calls Tryd.prog 78 #[.pointer (some ⟨b, 0, none⟩), .string s, .int .u8 (m : Int)] w fun e w' => e = .returned (.tuple #[]) ∧ RAt w' b 0 (rd s.toList r m) ∧ Turn b w w' := by
  have HE : Hid (rd s.toList r m = { r with x := ((r.a &&& r.x) + 256 - m) % 256, p := cmpQ ((r.a &&& r.x : Nat) : Int) m r.p }) := by show _ = _; rw [hs]; rfl
  have H : Hid (RAt w b 0 ⟨r.a, r.x, r.y, r.s, r.p, r.pc⟩) := h
  obtain ⟨ha, hx, hy, hs2, hp, hpc⟩ := hr
  obtain ⟨h0, h1, h2, h3, h4, h5, hf⟩ := h
  simp only [Nat.zero_add] at h1 h2 h3 h4 h5
  have hO : bits .and .u8 (r.a : Int) (r.x : Int) = ((r.a &&& r.x : Nat) : Int) := u8_and_nat _ _ ha hx
  have hl : r.a &&& r.x < 256 := and8 hx
  have HS : Hid ((((r.a &&& r.x : Nat) : Int) - (m : Int)) % 256 = ((((r.a &&& r.x) + 256 - m) % 256 : Nat) : Int)) := by show _ = _; omega
  go_enter Tryd.func78, Tryd.ntmps78
  repeat (first | with_reducible refine then_exit ?_ | with_reducible refine inB_ne rfl ?_ | with_reducible refine inB_eq ?_ | with_reducible refine then_normal ?_ | with_reducible refine inB_normal ?_ | with_reducible refine then_ret ?_ | with_reducible refine inB_ret ?_ | go_step)
  go_region_with (first
    | (fail))
  all_goals repeat (first | (go_at_call 76; refine (CmpN (r.a &&& r.x) m r.p _ hp).mono ?_; rintro e w' ⟨rfl, rfl⟩; dsimp only) | with_reducible refine then_exit ?_ | with_reducible refine inB_ne rfl ?_ | with_reducible refine inB_eq ?_ | with_reducible refine then_normal ?_ | with_reducible refine inB_normal ?_ | with_reducible refine then_ret ?_ | with_reducible refine inB_ret ?_ | go_step)
  all_goals go_returns
  all_goals exact ⟨rfl, by rw [HE.out]; exact (by rw [HS.out]; exact RAt.put1 (RAt.put4 (H.out.draws 1) _) _), Turn.undraw (n := 1) (((Turn.refl b _).set _ _).set _ _)⟩

end Go.Proofs.YtelmohajdmcnmaaDoor.Ex
