/- What needs no byte. -/
import Derived.Test.YtelmohajdmcnmaaDoorEx2
import Derived.Deep.RegionWith
namespace Go.Proofs.YtelmohajdmcnmaaDoor.Ex
open Go.RowKit Alu
set_option linter.unusedVariables false

set_option maxRecDepth 100000 in
set_option maxHeartbeats 2000000 in
theorem self_TAX (b : Nat) (s : ByteArray) (r : Rg) (w : World) (hs : s.toList = [84, 65, 88]) (h : RAt w b 0 r) (hr : r.ok) : Calls Tryd.prog 100 #[.pointer (some ⟨b, 0, none⟩), .string s] w fun e w' => e = .returned (.tuple #[]) ∧ RAt w' b 0 (sf s.toList r) ∧ Turn b w w' := by
  have HE : Hid (sf s.toList r = { r with x := r.a, p := mk r.p (r.a : Int) }) := by show _ = _; rw [hs]; rfl
  have H : Hid (RAt w b 0 ⟨r.a, r.x, r.y, r.s, r.p, r.pc⟩) := h
  obtain ⟨ha, hx, hy, hs2, hp, hpc⟩ := hr
  obtain ⟨h0, h1, h2, h3, h4, h5, hf⟩ := h
  simp only [Nat.zero_add] at h1 h2 h3 h4 h5
  go_enter Tryd.func100, Tryd.ntmps100
  repeat (first | with_reducible refine then_exit ?_ | with_reducible refine inB_ne rfl ?_ | with_reducible refine inB_eq ?_ | with_reducible refine then_normal ?_ | with_reducible refine inB_normal ?_ | with_reducible refine then_ret ?_ | with_reducible refine inB_ret ?_ | go_step)
  go_region_with (first
    | (go_at_call 73; refine (putX b r.a _ _ (by first | exact H.out.draws _ | exact H.out) ha hp).mono ?_; rintro e w1 ⟨rfl, hR, hT⟩))
  all_goals repeat (first | with_reducible refine then_exit ?_ | with_reducible refine inB_ne rfl ?_ | with_reducible refine inB_eq ?_ | with_reducible refine then_normal ?_ | with_reducible refine inB_normal ?_ | with_reducible refine then_ret ?_ | with_reducible refine inB_ret ?_ | go_step)
  all_goals go_returns
  all_goals exact ⟨rfl, by rw [HE.out]; exact hR, Turn.undraw (n := 1) (hT)⟩

set_option maxRecDepth 100000 in
set_option maxHeartbeats 2000000 in
theorem self_TAY (b : Nat) (s : ByteArray) (r : Rg) (w : World) (hs : s.toList = [84, 65, 89]) (h : RAt w b 0 r) (hr : r.ok) : Calls Tryd.prog 100 #[.pointer (some ⟨b, 0, none⟩), .string s] w fun e w' => e = .returned (.tuple #[]) ∧ RAt w' b 0 (sf s.toList r) ∧ Turn b w w' := by
  have HE : Hid (sf s.toList r = { r with y := r.a, p := mk r.p (r.a : Int) }) := by show _ = _; rw [hs]; rfl
  have H : Hid (RAt w b 0 ⟨r.a, r.x, r.y, r.s, r.p, r.pc⟩) := h
  obtain ⟨ha, hx, hy, hs2, hp, hpc⟩ := hr
  obtain ⟨h0, h1, h2, h3, h4, h5, hf⟩ := h
  simp only [Nat.zero_add] at h1 h2 h3 h4 h5
  go_enter Tryd.func100, Tryd.ntmps100
  repeat (first | with_reducible refine then_exit ?_ | with_reducible refine inB_ne rfl ?_ | with_reducible refine inB_eq ?_ | with_reducible refine then_normal ?_ | with_reducible refine inB_normal ?_ | with_reducible refine then_ret ?_ | with_reducible refine inB_ret ?_ | go_step)
  go_region_with (first
    | (go_at_call 73; refine (putY b r.a _ _ (by first | exact H.out.draws _ | exact H.out) ha hp).mono ?_; rintro e w1 ⟨rfl, hR, hT⟩))
  all_goals repeat (first | with_reducible refine then_exit ?_ | with_reducible refine inB_ne rfl ?_ | with_reducible refine inB_eq ?_ | with_reducible refine then_normal ?_ | with_reducible refine inB_normal ?_ | with_reducible refine then_ret ?_ | with_reducible refine inB_ret ?_ | go_step)
  all_goals go_returns
  all_goals exact ⟨rfl, by rw [HE.out]; exact hR, Turn.undraw (n := 1) (hT)⟩

set_option maxRecDepth 100000 in
set_option maxHeartbeats 2000000 in
theorem self_TXA (b : Nat) (s : ByteArray) (r : Rg) (w : World) (hs : s.toList = [84, 88, 65]) (h : RAt w b 0 r) (hr : r.ok) : Calls Tryd.prog 100 #[.pointer (some ⟨b, 0, none⟩), .string s] w fun e w' => e = .returned (.tuple #[]) ∧ RAt w' b 0 (sf s.toList r) ∧ Turn b w w' := by
  have HE : Hid (sf s.toList r = { r with a := r.x, p := mk r.p (r.x : Int) }) := by show _ = _; rw [hs]; rfl
  have H : Hid (RAt w b 0 ⟨r.a, r.x, r.y, r.s, r.p, r.pc⟩) := h
  obtain ⟨ha, hx, hy, hs2, hp, hpc⟩ := hr
  obtain ⟨h0, h1, h2, h3, h4, h5, hf⟩ := h
  simp only [Nat.zero_add] at h1 h2 h3 h4 h5
  go_enter Tryd.func100, Tryd.ntmps100
  repeat (first | with_reducible refine then_exit ?_ | with_reducible refine inB_ne rfl ?_ | with_reducible refine inB_eq ?_ | with_reducible refine then_normal ?_ | with_reducible refine inB_normal ?_ | with_reducible refine then_ret ?_ | with_reducible refine inB_ret ?_ | go_step)
  go_region_with (first
    | (go_at_call 73; refine (putA b r.x _ _ (by first | exact H.out.draws _ | exact H.out) hx hp).mono ?_; rintro e w1 ⟨rfl, hR, hT⟩))
  all_goals repeat (first | with_reducible refine then_exit ?_ | with_reducible refine inB_ne rfl ?_ | with_reducible refine inB_eq ?_ | with_reducible refine then_normal ?_ | with_reducible refine inB_normal ?_ | with_reducible refine then_ret ?_ | with_reducible refine inB_ret ?_ | go_step)
  all_goals go_returns
  all_goals exact ⟨rfl, by rw [HE.out]; exact hR, Turn.undraw (n := 1) (hT)⟩

set_option maxRecDepth 100000 in
set_option maxHeartbeats 2000000 in
theorem self_TYA (b : Nat) (s : ByteArray) (r : Rg) (w : World) (hs : s.toList = [84, 89, 65]) (h : RAt w b 0 r) (hr : r.ok) : Calls Tryd.prog 100 #[.pointer (some ⟨b, 0, none⟩), .string s] w fun e w' => e = .returned (.tuple #[]) ∧ RAt w' b 0 (sf s.toList r) ∧ Turn b w w' := by
  have HE : Hid (sf s.toList r = { r with a := r.y, p := mk r.p (r.y : Int) }) := by show _ = _; rw [hs]; rfl
  have H : Hid (RAt w b 0 ⟨r.a, r.x, r.y, r.s, r.p, r.pc⟩) := h
  obtain ⟨ha, hx, hy, hs2, hp, hpc⟩ := hr
  obtain ⟨h0, h1, h2, h3, h4, h5, hf⟩ := h
  simp only [Nat.zero_add] at h1 h2 h3 h4 h5
  go_enter Tryd.func100, Tryd.ntmps100
  repeat (first | with_reducible refine then_exit ?_ | with_reducible refine inB_ne rfl ?_ | with_reducible refine inB_eq ?_ | with_reducible refine then_normal ?_ | with_reducible refine inB_normal ?_ | with_reducible refine then_ret ?_ | with_reducible refine inB_ret ?_ | go_step)
  go_region_with (first
    | (go_at_call 73; refine (putA b r.y _ _ (by first | exact H.out.draws _ | exact H.out) hy hp).mono ?_; rintro e w1 ⟨rfl, hR, hT⟩))
  all_goals repeat (first | with_reducible refine then_exit ?_ | with_reducible refine inB_ne rfl ?_ | with_reducible refine inB_eq ?_ | with_reducible refine then_normal ?_ | with_reducible refine inB_normal ?_ | with_reducible refine then_ret ?_ | with_reducible refine inB_ret ?_ | go_step)
  all_goals go_returns
  all_goals exact ⟨rfl, by rw [HE.out]; exact hR, Turn.undraw (n := 1) (hT)⟩

set_option maxRecDepth 100000 in
set_option maxHeartbeats 2000000 in
theorem self_TSX (b : Nat) (s : ByteArray) (r : Rg) (w : World) (hs : s.toList = [84, 83, 88]) (h : RAt w b 0 r) (hr : r.ok) : Calls Tryd.prog 100 #[.pointer (some ⟨b, 0, none⟩), .string s] w fun e w' => e = .returned (.tuple #[]) ∧ RAt w' b 0 (sf s.toList r) ∧ Turn b w w' := by
  have HE : Hid (sf s.toList r = { r with x := r.s, p := mk r.p (r.s : Int) }) := by show _ = _; rw [hs]; rfl
  have H : Hid (RAt w b 0 ⟨r.a, r.x, r.y, r.s, r.p, r.pc⟩) := h
  obtain ⟨ha, hx, hy, hs2, hp, hpc⟩ := hr
  obtain ⟨h0, h1, h2, h3, h4, h5, hf⟩ := h
  simp only [Nat.zero_add] at h1 h2 h3 h4 h5
  go_enter Tryd.func100, Tryd.ntmps100
  repeat (first | with_reducible refine then_exit ?_ | with_reducible refine inB_ne rfl ?_ | with_reducible refine inB_eq ?_ | with_reducible refine then_normal ?_ | with_reducible refine inB_normal ?_ | with_reducible refine then_ret ?_ | with_reducible refine inB_ret ?_ | go_step)
  go_region_with (first
    | (go_at_call 73; refine (putX b r.s _ _ (by first | exact H.out.draws _ | exact H.out) hs2 hp).mono ?_; rintro e w1 ⟨rfl, hR, hT⟩))
  all_goals repeat (first | with_reducible refine then_exit ?_ | with_reducible refine inB_ne rfl ?_ | with_reducible refine inB_eq ?_ | with_reducible refine then_normal ?_ | with_reducible refine inB_normal ?_ | with_reducible refine then_ret ?_ | with_reducible refine inB_ret ?_ | go_step)
  all_goals go_returns
  all_goals exact ⟨rfl, by rw [HE.out]; exact hR, Turn.undraw (n := 1) (hT)⟩

end Go.Proofs.YtelmohajdmcnmaaDoor.Ex
