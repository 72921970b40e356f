/- What a byte that is read does: LXA. -/
import Derived.Test.YtelmohajdmcnmaaDoorEx2D
import Derived.Deep.RegionWith
namespace Go.Proofs.YtelmohajdmcnmaaDoor.Ex
open Go.RowKit Alu
set_option linter.unusedVariables false

set_option maxRecDepth 100000 in
set_option maxHeartbeats 2000000 in
theorem readTwice_LXA (b m : Nat) (s : ByteArray) (r : Rg) (w : World) (hs : s.toList = [76, 88, 65]) (h : RAt w b 0 r) (hr : r.ok) (hm : m < 256) : Calls Tryd.prog 78 #[.pointer (some ⟨b, 0, none⟩), .string s, .int .u8 (m : Int)] w fun e w' => e = .returned (.tuple #[]) ∧ RAt w' b 0 (rd s.toList r m) ∧ Turn b w w' := by
  have HE : Hid (rd s.toList r m = { r with a := (r.a ||| 238) &&& m, x := (r.a ||| 238) &&& m, p := mk r.p (((r.a ||| 238) &&& m : Nat) : Int) }) := by show _ = _; rw [hs]; rfl
  have H : Hid (RAt w b 0 ⟨r.a, r.x, r.y, r.s, r.p, r.pc⟩) := h
  obtain ⟨ha, hx, hy, hs2, hp, hpc⟩ := hr
  obtain ⟨h0, h1, h2, h3, h4, h5, hf⟩ := h
  simp only [Nat.zero_add] at h1 h2 h3 h4 h5
  have hO : bits .or .u8 (r.a : Int) 238 = ((r.a ||| 238 : Nat) : Int) := u8_or_nat _ _ ha (by decide)
  have hO2 : bits .and .u8 ((r.a ||| 238 : Nat) : Int) (m : Int) = (((r.a ||| 238) &&& m : Nat) : Int) := u8_and_nat _ _ (or8 ha (by decide)) hm
  have hl : (r.a ||| 238) &&& m < 256 := and8 hm
  go_enter Tryd.func78, Tryd.ntmps78
  repeat (first | (go_at_call 45; refine (read_LAX b ((r.a ||| 238) &&& m) _ _ _ (by rw [ByteArray.toList_eq]) (by exact H.out) ⟨ha, hx, hy, hs2, hp, hpc⟩ hl).mono ?_; rintro e w1 ⟨rfl, hR, hT⟩; dsimp only) | with_reducible refine then_exit ?_ | with_reducible refine inB_ne rfl ?_ | with_reducible refine inB_eq ?_ | with_reducible refine then_normal ?_ | with_reducible refine inB_normal ?_ | with_reducible refine then_ret ?_ | with_reducible refine inB_ret ?_ | go_step)
  all_goals go_returns
  all_goals exact ⟨rfl, by rw [HE.out]; exact (by rw [ByteArray.toList_eq] at hR; exact hR), hT⟩

end Go.Proofs.YtelmohajdmcnmaaDoor.Ex
