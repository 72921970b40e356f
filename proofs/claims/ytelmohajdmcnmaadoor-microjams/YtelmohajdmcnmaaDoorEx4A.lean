/- What needs no byte. -/
import Derived.Test.YtelmohajdmcnmaaDoorEx2
import Derived.Deep.RegionWith
namespace Go.Proofs.YtelmohajdmcnmaaDoor.Ex
open Go.RowKit Alu
set_option linter.unusedVariables false

set_option maxRecDepth 100000 in
set_option maxHeartbeats 2000000 in
theorem self_CLC (b : Nat) (s : ByteArray) (r : Rg) (w : World) (hs : s.toList = [67, 76, 67]) (h : RAt w b 0 r) (hr : r.ok) : Calls Tryd.prog 100 #[.pointer (some ⟨b, 0, none⟩), .string s] w fun e w' => e = .returned (.tuple #[]) ∧ RAt w' b 0 (sf s.toList r) ∧ Turn b w w' := by
  have HE : Hid (sf s.toList r = { r with p := W r.p 1 false }) := by show _ = _; rw [hs]; rfl
  have H : Hid (RAt w b 0 ⟨r.a, r.x, r.y, r.s, r.p, r.pc⟩) := h
  obtain ⟨ha, hx, hy, hs2, hp, hpc⟩ := hr
  obtain ⟨h0, h1, h2, h3, h4, h5, hf⟩ := h
  simp only [Nat.zero_add] at h1 h2 h3 h4 h5
  go_enter Tryd.func100, Tryd.ntmps100
  repeat (first | (go_at_call 98; refine (flag b 1 false _ _ H.out hp (by decide)).mono ?_; rintro e w1 ⟨rfl, hR, hT⟩; dsimp only) | with_reducible refine then_exit ?_ | with_reducible refine inB_ne rfl ?_ | with_reducible refine inB_eq ?_ | with_reducible refine then_normal ?_ | with_reducible refine inB_normal ?_ | with_reducible refine then_ret ?_ | with_reducible refine inB_ret ?_ | go_step)
  all_goals go_returns
  all_goals exact ⟨rfl, by rw [HE.out]; exact hR, hT⟩

set_option maxRecDepth 100000 in
set_option maxHeartbeats 2000000 in
theorem self_CLD (b : Nat) (s : ByteArray) (r : Rg) (w : World) (hs : s.toList = [67, 76, 68]) (h : RAt w b 0 r) (hr : r.ok) : Calls Tryd.prog 100 #[.pointer (some ⟨b, 0, none⟩), .string s] w fun e w' => e = .returned (.tuple #[]) ∧ RAt w' b 0 (sf s.toList r) ∧ Turn b w w' := by
  have HE : Hid (sf s.toList r = { r with p := W r.p 8 false }) := by show _ = _; rw [hs]; rfl
  have H : Hid (RAt w b 0 ⟨r.a, r.x, r.y, r.s, r.p, r.pc⟩) := h
  obtain ⟨ha, hx, hy, hs2, hp, hpc⟩ := hr
  obtain ⟨h0, h1, h2, h3, h4, h5, hf⟩ := h
  simp only [Nat.zero_add] at h1 h2 h3 h4 h5
  go_enter Tryd.func100, Tryd.ntmps100
  repeat (first | (go_at_call 98; refine (flag b 8 false _ _ H.out hp (by decide)).mono ?_; rintro e w1 ⟨rfl, hR, hT⟩; dsimp only) | with_reducible refine then_exit ?_ | with_reducible refine inB_ne rfl ?_ | with_reducible refine inB_eq ?_ | with_reducible refine then_normal ?_ | with_reducible refine inB_normal ?_ | with_reducible refine then_ret ?_ | with_reducible refine inB_ret ?_ | go_step)
  all_goals go_returns
  all_goals exact ⟨rfl, by rw [HE.out]; exact hR, hT⟩

set_option maxRecDepth 100000 in
set_option maxHeartbeats 2000000 in
theorem self_CLI (b : Nat) (s : ByteArray) (r : Rg) (w : World) (hs : s.toList = [67, 76, 73]) (h : RAt w b 0 r) (hr : r.ok) : Calls Tryd.prog 100 #[.pointer (some ⟨b, 0, none⟩), .string s] w fun e w' => e = .returned (.tuple #[]) ∧ RAt w' b 0 (sf s.toList r) ∧ Turn b w w' := by
  have HE : Hid (sf s.toList r = { r with p := W r.p 4 false }) := by show _ = _; rw [hs]; rfl
  have H : Hid (RAt w b 0 ⟨r.a, r.x, r.y, r.s, r.p, r.pc⟩) := h
  obtain ⟨ha, hx, hy, hs2, hp, hpc⟩ := hr
  obtain ⟨h0, h1, h2, h3, h4, h5, hf⟩ := h
  simp only [Nat.zero_add] at h1 h2 h3 h4 h5
  go_enter Tryd.func100, Tryd.ntmps100
  repeat (first | (go_at_call 98; refine (flag b 4 false _ _ H.out hp (by decide)).mono ?_; rintro e w1 ⟨rfl, hR, hT⟩; dsimp only) | with_reducible refine then_exit ?_ | with_reducible refine inB_ne rfl ?_ | with_reducible refine inB_eq ?_ | with_reducible refine then_normal ?_ | with_reducible refine inB_normal ?_ | with_reducible refine then_ret ?_ | with_reducible refine inB_ret ?_ | go_step)
  all_goals go_returns
  all_goals exact ⟨rfl, by rw [HE.out]; exact hR, hT⟩

set_option maxRecDepth 100000 in
set_option maxHeartbeats 2000000 in
theorem self_CLV (b : Nat) (s : ByteArray) (r : Rg) (w : World) (hs : s.toList = [67, 76, 86]) (h : RAt w b 0 r) (hr : r.ok) : Calls Tryd.prog 100 #[.pointer (some ⟨b, 0, none⟩), .string s] w fun e w' => e = .returned (.tuple #[]) ∧ RAt w' b 0 (sf s.toList r) ∧ Turn b w w' := by
  have HE : Hid (sf s.toList r = { r with p := W r.p 64 false }) := by show _ = _; rw [hs]; rfl
  have H : Hid (RAt w b 0 ⟨r.a, r.x, r.y, r.s, r.p, r.pc⟩) := h
  obtain ⟨ha, hx, hy, hs2, hp, hpc⟩ := hr
  obtain ⟨h0, h1, h2, h3, h4, h5, hf⟩ := h
  simp only [Nat.zero_add] at h1 h2 h3 h4 h5
  go_enter Tryd.func100, Tryd.ntmps100
  repeat (first | (go_at_call 98; refine (flag b 64 false _ _ H.out hp (by decide)).mono ?_; rintro e w1 ⟨rfl, hR, hT⟩; dsimp only) | with_reducible refine then_exit ?_ | with_reducible refine inB_ne rfl ?_ | with_reducible refine inB_eq ?_ | with_reducible refine then_normal ?_ | with_reducible refine inB_normal ?_ | with_reducible refine then_ret ?_ | with_reducible refine inB_ret ?_ | go_step)
  all_goals go_returns
  all_goals exact ⟨rfl, by rw [HE.out]; exact hR, hT⟩

set_option maxRecDepth 100000 in
set_option maxHeartbeats 2000000 in
theorem self_SEC (b : Nat) (s : ByteArray) (r : Rg) (w : World) (hs : s.toList = [83, 69, 67]) (h : RAt w b 0 r) (hr : r.ok) : Calls Tryd.prog 100 #[.pointer (some ⟨b, 0, none⟩), .string s] w fun e w' => e = .returned (.tuple #[]) ∧ RAt w' b 0 (sf s.toList r) ∧ Turn b w w' := by
  have HE : Hid (sf s.toList r = { r with p := W r.p 1 true }) := by show _ = _; rw [hs]; rfl
  have H : Hid (RAt w b 0 ⟨r.a, r.x, r.y, r.s, r.p, r.pc⟩) := h
  obtain ⟨ha, hx, hy, hs2, hp, hpc⟩ := hr
  obtain ⟨h0, h1, h2, h3, h4, h5, hf⟩ := h
  simp only [Nat.zero_add] at h1 h2 h3 h4 h5
  go_enter Tryd.func100, Tryd.ntmps100
  repeat (first | (go_at_call 98; refine (flag b 1 true _ _ H.out hp (by decide)).mono ?_; rintro e w1 ⟨rfl, hR, hT⟩; dsimp only) | with_reducible refine then_exit ?_ | with_reducible refine inB_ne rfl ?_ | with_reducible refine inB_eq ?_ | with_reducible refine then_normal ?_ | with_reducible refine inB_normal ?_ | with_reducible refine then_ret ?_ | with_reducible refine inB_ret ?_ | go_step)
  all_goals go_returns
  all_goals exact ⟨rfl, by rw [HE.out]; exact hR, hT⟩

set_option maxRecDepth 100000 in
set_option maxHeartbeats 2000000 in
theorem self_SED (b : Nat) (s : ByteArray) (r : Rg) (w : World) (hs : s.toList = [83, 69, 68]) (h : RAt w b 0 r) (hr : r.ok) : Calls Tryd.prog 100 #[.pointer (some ⟨b, 0, none⟩), .string s] w fun e w' => e = .returned (.tuple #[]) ∧ RAt w' b 0 (sf s.toList r) ∧ Turn b w w' := by
  have HE : Hid (sf s.toList r = { r with p := W r.p 8 true }) := by show _ = _; rw [hs]; rfl
  have H : Hid (RAt w b 0 ⟨r.a, r.x, r.y, r.s, r.p, r.pc⟩) := h
  obtain ⟨ha, hx, hy, hs2, hp, hpc⟩ := hr
  obtain ⟨h0, h1, h2, h3, h4, h5, hf⟩ := h
  simp only [Nat.zero_add] at h1 h2 h3 h4 h5
  go_enter Tryd.func100, Tryd.ntmps100
  repeat (first | (go_at_call 98; refine (flag b 8 true _ _ H.out hp (by decide)).mono ?_; rintro e w1 ⟨rfl, hR, hT⟩; dsimp only) | with_reducible refine then_exit ?_ | with_reducible refine inB_ne rfl ?_ | with_reducible refine inB_eq ?_ | with_reducible refine then_normal ?_ | with_reducible refine inB_normal ?_ | with_reducible refine then_ret ?_ | with_reducible refine inB_ret ?_ | go_step)
  all_goals go_returns
  all_goals exact ⟨rfl, by rw [HE.out]; exact hR, hT⟩

set_option maxRecDepth 100000 in
set_option maxHeartbeats 2000000 in
theorem self_SEI (b : Nat) (s : ByteArray) (r : Rg) (w : World) (hs : s.toList = [83, 69, 73]) (h : RAt w b 0 r) (hr : r.ok) : Calls Tryd.prog 100 #[.pointer (some ⟨b, 0, none⟩), .string s] w fun e w' => e = .returned (.tuple #[]) ∧ RAt w' b 0 (sf s.toList r) ∧ Turn b w w' := by
  have HE : Hid (sf s.toList r = { r with p := W r.p 4 true }) := by show _ = _; rw [hs]; rfl
  have H : Hid (RAt w b 0 ⟨r.a, r.x, r.y, r.s, r.p, r.pc⟩) := h
  obtain ⟨ha, hx, hy, hs2, hp, hpc⟩ := hr
  obtain ⟨h0, h1, h2, h3, h4, h5, hf⟩ := h
  simp only [Nat.zero_add] at h1 h2 h3 h4 h5
  go_enter Tryd.func100, Tryd.ntmps100
  repeat (first | (go_at_call 98; refine (flag b 4 true _ _ H.out hp (by decide)).mono ?_; rintro e w1 ⟨rfl, hR, hT⟩; dsimp only) | with_reducible refine then_exit ?_ | with_reducible refine inB_ne rfl ?_ | with_reducible refine inB_eq ?_ | with_reducible refine then_normal ?_ | with_reducible refine inB_normal ?_ | with_reducible refine then_ret ?_ | with_reducible refine inB_ret ?_ | go_step)
  all_goals go_returns
  all_goals exact ⟨rfl, by rw [HE.out]; exact hR, hT⟩

set_option maxRecDepth 100000 in
set_option maxHeartbeats 2000000 in
theorem self_TXS (b : Nat) (s : ByteArray) (r : Rg) (w : World) (hs : s.toList = [84, 88, 83]) (h : RAt w b 0 r) (hr : r.ok) : Calls Tryd.prog 100 #[.pointer (some ⟨b, 0, none⟩), .string s] w fun e w' => e = .returned (.tuple #[]) ∧ RAt w' b 0 (sf s.toList r) ∧ Turn b w w' := by
  have HE : Hid (sf s.toList r = { r with s := r.x }) := by show _ = _; rw [hs]; rfl
  have H : Hid (RAt w b 0 ⟨r.a, r.x, r.y, r.s, r.p, r.pc⟩) := h
  obtain ⟨ha, hx, hy, hs2, hp, hpc⟩ := hr
  obtain ⟨h0, h1, h2, h3, h4, h5, hf⟩ := h
  simp only [Nat.zero_add] at h1 h2 h3 h4 h5
  go_enter Tryd.func100, Tryd.ntmps100
  repeat (first | with_reducible refine then_exit ?_ | with_reducible refine inB_ne rfl ?_ | with_reducible refine inB_eq ?_ | with_reducible refine then_normal ?_ | with_reducible refine inB_normal ?_ | with_reducible refine then_ret ?_ | with_reducible refine inB_ret ?_ | go_step)
  all_goals go_returns
  all_goals exact ⟨rfl, by rw [HE.out]; exact H.out.put3 _, (Turn.refl b _).set _ _⟩

end Go.Proofs.YtelmohajdmcnmaaDoor.Ex
