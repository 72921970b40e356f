/- What needs no byte. -/
import Derived.Test.YtelmohajdmcnmaaDoorEx2
import Derived.Deep.RegionWith
namespace Go.Proofs.YtelmohajdmcnmaaDoor.Ex
open Go.RowKit Alu
set_option linter.unusedVariables false

set_option maxRecDepth 100000 in
set_option maxHeartbeats 2000000 in
theorem self_INX (b : Nat) (s : ByteArray) (r : Rg) (w : World) (hs : s.toList = [73, 78, 88]) (h : RAt w b 0 r) (hr : r.ok) : Calls Tryd.prog 100 #[.pointer (some ⟨b, 0, none⟩), .string s] w fun e w' => e = .returned (.tuple #[]) ∧ RAt w' b 0 (sf s.toList r) ∧ Turn b w w' := by
  have HE : Hid (sf s.toList r = { r with x := (r.x + 1) % 256, p := mk r.p (((r.x + 1) % 256 : Nat) : Int) }) := by show _ = _; rw [hs]; rfl
  have H : Hid (RAt w b 0 ⟨r.a, r.x, r.y, r.s, r.p, r.pc⟩) := h
  obtain ⟨ha, hx, hy, hs2, hp, hpc⟩ := hr
  obtain ⟨h0, h1, h2, h3, h4, h5, hf⟩ := h
  simp only [Nat.zero_add] at h1 h2 h3 h4 h5
  have hO : IntKind.u8.wrap ((r.x : Int) + 1) = (((r.x + 1) % 256 : Nat) : Int) := by rw [IntKind.wrap_u8]; omega
  have hl : (r.x + 1) % 256 < 256 := by omega
  go_enter Tryd.func100, Tryd.ntmps100
  repeat (first | with_reducible refine then_exit ?_ | with_reducible refine inB_ne rfl ?_ | with_reducible refine inB_eq ?_ | with_reducible refine then_normal ?_ | with_reducible refine inB_normal ?_ | with_reducible refine then_ret ?_ | with_reducible refine inB_ret ?_ | go_step)
  go_region_with (first
    | (go_at_call 73; refine (putX b ((r.x + 1) % 256) _ _ (by first | exact H.out.draws _ | exact H.out) hl hp).mono ?_; rintro e w1 ⟨rfl, hR, hT⟩))
  all_goals repeat (first | with_reducible refine then_exit ?_ | with_reducible refine inB_ne rfl ?_ | with_reducible refine inB_eq ?_ | with_reducible refine then_normal ?_ | with_reducible refine inB_normal ?_ | with_reducible refine then_ret ?_ | with_reducible refine inB_ret ?_ | go_step)
  all_goals go_returns
  all_goals exact ⟨rfl, by rw [HE.out]; exact hR, Turn.undraw (n := 1) (hT)⟩

set_option maxRecDepth 100000 in
set_option maxHeartbeats 2000000 in
theorem self_INY (b : Nat) (s : ByteArray) (r : Rg) (w : World) (hs : s.toList = [73, 78, 89]) (h : RAt w b 0 r) (hr : r.ok) : Calls Tryd.prog 100 #[.pointer (some ⟨b, 0, none⟩), .string s] w fun e w' => e = .returned (.tuple #[]) ∧ RAt w' b 0 (sf s.toList r) ∧ Turn b w w' := by
  have HE : Hid (sf s.toList r = { r with y := (r.y + 1) % 256, p := mk r.p (((r.y + 1) % 256 : Nat) : Int) }) := by show _ = _; rw [hs]; rfl
  have H : Hid (RAt w b 0 ⟨r.a, r.x, r.y, r.s, r.p, r.pc⟩) := h
  obtain ⟨ha, hx, hy, hs2, hp, hpc⟩ := hr
  obtain ⟨h0, h1, h2, h3, h4, h5, hf⟩ := h
  simp only [Nat.zero_add] at h1 h2 h3 h4 h5
  have hO : IntKind.u8.wrap ((r.y : Int) + 1) = (((r.y + 1) % 256 : Nat) : Int) := by rw [IntKind.wrap_u8]; omega
  have hl : (r.y + 1) % 256 < 256 := by omega
  go_enter Tryd.func100, Tryd.ntmps100
  repeat (first | with_reducible refine then_exit ?_ | with_reducible refine inB_ne rfl ?_ | with_reducible refine inB_eq ?_ | with_reducible refine then_normal ?_ | with_reducible refine inB_normal ?_ | with_reducible refine then_ret ?_ | with_reducible refine inB_ret ?_ | go_step)
  go_region_with (first
    | (go_at_call 73; refine (putY b ((r.y + 1) % 256) _ _ (by first | exact H.out.draws _ | exact H.out) hl hp).mono ?_; rintro e w1 ⟨rfl, hR, hT⟩))
  all_goals repeat (first | with_reducible refine then_exit ?_ | with_reducible refine inB_ne rfl ?_ | with_reducible refine inB_eq ?_ | with_reducible refine then_normal ?_ | with_reducible refine inB_normal ?_ | with_reducible refine then_ret ?_ | with_reducible refine inB_ret ?_ | go_step)
  all_goals go_returns
  all_goals exact ⟨rfl, by rw [HE.out]; exact hR, Turn.undraw (n := 1) (hT)⟩

set_option maxRecDepth 100000 in
set_option maxHeartbeats 2000000 in
theorem self_DEX (b : Nat) (s : ByteArray) (r : Rg) (w : World) (hs : s.toList = [68, 69, 88]) (h : RAt w b 0 r) (hr : r.ok) : Calls Tryd.prog 100 #[.pointer (some ⟨b, 0, none⟩), .string s] w fun e w' => e = .returned (.tuple #[]) ∧ RAt w' b 0 (sf s.toList r) ∧ Turn b w w' := by
  have HE : Hid (sf s.toList r = { r with x := (r.x + 255) % 256, p := mk r.p (((r.x + 255) % 256 : Nat) : Int) }) := by show _ = _; rw [hs]; rfl
  have H : Hid (RAt w b 0 ⟨r.a, r.x, r.y, r.s, r.p, r.pc⟩) := h
  obtain ⟨ha, hx, hy, hs2, hp, hpc⟩ := hr
  obtain ⟨h0, h1, h2, h3, h4, h5, hf⟩ := h
  simp only [Nat.zero_add] at h1 h2 h3 h4 h5
  have hO : IntKind.u8.wrap ((r.x : Int) - 1) = (((r.x + 255) % 256 : Nat) : Int) := by rw [IntKind.wrap_u8]; omega
  have hl : (r.x + 255) % 256 < 256 := by omega
  go_enter Tryd.func100, Tryd.ntmps100
  repeat (first | with_reducible refine then_exit ?_ | with_reducible refine inB_ne rfl ?_ | with_reducible refine inB_eq ?_ | with_reducible refine then_normal ?_ | with_reducible refine inB_normal ?_ | with_reducible refine then_ret ?_ | with_reducible refine inB_ret ?_ | go_step)
  go_region_with (first
    | (go_at_call 73; refine (putX b ((r.x + 255) % 256) _ _ (by first | exact H.out.draws _ | exact H.out) hl hp).mono ?_; rintro e w1 ⟨rfl, hR, hT⟩))
  all_goals repeat (first | with_reducible refine then_exit ?_ | with_reducible refine inB_ne rfl ?_ | with_reducible refine inB_eq ?_ | with_reducible refine then_normal ?_ | with_reducible refine inB_normal ?_ | with_reducible refine then_ret ?_ | with_reducible refine inB_ret ?_ | go_step)
  all_goals go_returns
  all_goals exact ⟨rfl, by rw [HE.out]; exact hR, Turn.undraw (n := 1) (hT)⟩

set_option maxRecDepth 100000 in
set_option maxHeartbeats 2000000 in
theorem self_DEY (b : Nat) (s : ByteArray) (r : Rg) (w : World) (hs : s.toList = [68, 69, 89]) (h : RAt w b 0 r) (hr : r.ok) : Calls Tryd.prog 100 #[.pointer (some ⟨b, 0, none⟩), .string s] w fun e w' => e = .returned (.tuple #[]) ∧ RAt w' b 0 (sf s.toList r) ∧ Turn b w w' := by
  have HE : Hid (sf s.toList r = { r with y := (r.y + 255) % 256, p := mk r.p (((r.y + 255) % 256 : Nat) : Int) }) := by show _ = _; rw [hs]; rfl
  have H : Hid (RAt w b 0 ⟨r.a, r.x, r.y, r.s, r.p, r.pc⟩) := h
  obtain ⟨ha, hx, hy, hs2, hp, hpc⟩ := hr
  obtain ⟨h0, h1, h2, h3, h4, h5, hf⟩ := h
  simp only [Nat.zero_add] at h1 h2 h3 h4 h5
  have hO : IntKind.u8.wrap ((r.y : Int) - 1) = (((r.y + 255) % 256 : Nat) : Int) := by rw [IntKind.wrap_u8]; omega
  have hl : (r.y + 255) % 256 < 256 := by omega
  go_enter Tryd.func100, Tryd.ntmps100
  repeat (first | with_reducible refine then_exit ?_ | with_reducible refine inB_ne rfl ?_ | with_reducible refine inB_eq ?_ | with_reducible refine then_normal ?_ | with_reducible refine inB_normal ?_ | with_reducible refine then_ret ?_ | with_reducible refine inB_ret ?_ | go_step)
  go_region_with (first
    | (go_at_call 73; refine (putY b ((r.y + 255) % 256) _ _ (by first | exact H.out.draws _ | exact H.out) hl hp).mono ?_; rintro e w1 ⟨rfl, hR, hT⟩))
  all_goals repeat (first | with_reducible refine then_exit ?_ | with_reducible refine inB_ne rfl ?_ | with_reducible refine inB_eq ?_ | with_reducible refine then_normal ?_ | with_reducible refine inB_normal ?_ | with_reducible refine then_ret ?_ | with_reducible refine inB_ret ?_ | go_step)
  all_goals go_returns
  all_goals exact ⟨rfl, by rw [HE.out]; exact hR, Turn.undraw (n := 1) (hT)⟩

end Go.Proofs.YtelmohajdmcnmaaDoor.Ex
