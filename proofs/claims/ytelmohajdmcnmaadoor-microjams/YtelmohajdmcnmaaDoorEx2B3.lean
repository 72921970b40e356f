/- What a byte that is read does: sums. -/
import Derived.Test.YtelmohajdmcnmaaDoorEx2
import Derived.Deep.RegionWith
namespace Go.Proofs.YtelmohajdmcnmaaDoor.Ex
open Go.RowKit Alu
set_option linter.unusedVariables false

set_option maxRecDepth 100000 in
set_option maxHeartbeats 2000000 in
theorem readTwice_ARR (b m : Nat) (s : ByteArray) (r : Rg) (w : World) (hs : s.toList = [65, 82, 82]) (h : RAt w b 0 r) (hr : r.ok) (hm : m < 256) : Calls Tryd.prog 78 #[.pointer (some ⟨b, 0, none⟩), .string s, .int .u8 (m : Int)] w fun e w' => e = .returned (.tuple #[]) ∧ RAt w' b 0 (rd s.toList r m) ∧ Turn b w w' := by
  have HE : Hid (rd s.toList r m = { r with a := oddN r.a m r.p, p := oddQ r.a m r.p }) := by show _ = _; rw [hs]; rfl
  have H : Hid (RAt w b 0 ⟨r.a, r.x, r.y, r.s, r.p, r.pc⟩) := h
  obtain ⟨ha, hx, hy, hs2, hp, hpc⟩ := hr
  obtain ⟨h0, h1, h2, h3, h4, h5, hf⟩ := h
  simp only [Nat.zero_add] at h1 h2 h3 h4 h5
  go_enter Tryd.func78, Tryd.ntmps78
  repeat (first | with_reducible refine then_exit ?_ | with_reducible refine inB_ne rfl ?_ | with_reducible refine inB_eq ?_ | with_reducible refine then_normal ?_ | with_reducible refine inB_normal ?_ | with_reducible refine then_ret ?_ | with_reducible refine inB_ret ?_ | go_step)
  go_region_with (first
    | (go_at_call 99; refine (OddN r.a m r.p _ ha hm hp).mono ?_; rintro e w1 ⟨rfl, hB⟩; have H1 : Hid (RAt w1 b 0 ⟨r.a, r.x, r.y, r.s, r.p, r.pc⟩) := RAt.below (by first | exact H.out.draws _ | exact H.out) hB; obtain ⟨g0, g1, g2, g3, g4, g5, gf⟩ := H1.out; simp only [Nat.zero_add] at g1 g2 g3 g4 g5))
  all_goals repeat (first | with_reducible refine then_exit ?_ | with_reducible refine inB_ne rfl ?_ | with_reducible refine inB_eq ?_ | with_reducible refine then_normal ?_ | with_reducible refine inB_normal ?_ | with_reducible refine then_ret ?_ | with_reducible refine inB_ret ?_ | go_step)
  all_goals go_returns
  all_goals exact ⟨rfl, by rw [HE.out]; exact RAt.put4 (RAt.put0 H1.out _) _, Turn.undraw (n := 1) (((Turn.of_below hB).set _ _).set _ _)⟩

end Go.Proofs.YtelmohajdmcnmaaDoor.Ex
