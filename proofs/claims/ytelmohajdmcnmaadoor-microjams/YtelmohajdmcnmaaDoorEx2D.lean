/- What a byte that is read does: loads. -/
import Derived.Test.YtelmohajdmcnmaaDoorEx2
import Derived.Deep.RegionWith
namespace Go.Proofs.YtelmohajdmcnmaaDoor.Ex
open Go.RowKit Alu
set_option linter.unusedVariables false

set_option maxRecDepth 100000 in
set_option maxHeartbeats 2000000 in
theorem read_LDX (b m : Nat) (s : ByteArray) (r : Rg) (w : World) (hs : s.toList = [76, 68, 88]) (h : RAt w b 0 r) (hr : r.ok) (hm : m < 256) : Calls Tryd.prog 45 #[.pointer (some ⟨b, 0, none⟩), .string s, .int .u8 (m : Int)] w fun e w' => e = .returned (.tuple #[]) ∧ RAt w' b 0 (rd s.toList r m) ∧ Turn b w w' := by
  have HE : Hid (rd s.toList r m = { r with x := m, p := mk r.p (m : Int) }) := by show _ = _; rw [hs]; rfl
  have H : Hid (RAt w b 0 ⟨r.a, r.x, r.y, r.s, r.p, r.pc⟩) := h
  obtain ⟨ha, hx, hy, hs2, hp, hpc⟩ := hr
  obtain ⟨h0, h1, h2, h3, h4, h5, hf⟩ := h
  simp only [Nat.zero_add] at h1 h2 h3 h4 h5
  go_enter Tryd.func45, Tryd.ntmps45
  repeat (first | (go_at_call 73; refine (putX b m r _ (by exact H.out) hm hp).mono ?_; rintro e w1 ⟨rfl, hR, hT⟩; dsimp only) | with_reducible refine then_exit ?_ | with_reducible refine inB_ne rfl ?_ | with_reducible refine inB_eq ?_ | with_reducible refine then_normal ?_ | with_reducible refine inB_normal ?_ | with_reducible refine then_ret ?_ | with_reducible refine inB_ret ?_ | go_step)
  all_goals go_returns
  all_goals exact ⟨rfl, by rw [HE.out]; exact hR, hT⟩

set_option maxRecDepth 100000 in
set_option maxHeartbeats 2000000 in
theorem read_LDY (b m : Nat) (s : ByteArray) (r : Rg) (w : World) (hs : s.toList = [76, 68, 89]) (h : RAt w b 0 r) (hr : r.ok) (hm : m < 256) : Calls Tryd.prog 45 #[.pointer (some ⟨b, 0, none⟩), .string s, .int .u8 (m : Int)] w fun e w' => e = .returned (.tuple #[]) ∧ RAt w' b 0 (rd s.toList r m) ∧ Turn b w w' := by
  have HE : Hid (rd s.toList r m = { r with y := m, p := mk r.p (m : Int) }) := by show _ = _; rw [hs]; rfl
  have H : Hid (RAt w b 0 ⟨r.a, r.x, r.y, r.s, r.p, r.pc⟩) := h
  obtain ⟨ha, hx, hy, hs2, hp, hpc⟩ := hr
  obtain ⟨h0, h1, h2, h3, h4, h5, hf⟩ := h
  simp only [Nat.zero_add] at h1 h2 h3 h4 h5
  go_enter Tryd.func45, Tryd.ntmps45
  repeat (first | (go_at_call 73; refine (putY b m r _ (by exact H.out) hm hp).mono ?_; rintro e w1 ⟨rfl, hR, hT⟩; dsimp only) | with_reducible refine then_exit ?_ | with_reducible refine inB_ne rfl ?_ | with_reducible refine inB_eq ?_ | with_reducible refine then_normal ?_ | with_reducible refine inB_normal ?_ | with_reducible refine then_ret ?_ | with_reducible refine inB_ret ?_ | go_step)
  all_goals go_returns
  all_goals exact ⟨rfl, by rw [HE.out]; exact hR, hT⟩

set_option maxRecDepth 100000 in
set_option maxHeartbeats 2000000 in
theorem read_LDA (b m : Nat) (s : ByteArray) (r : Rg) (w : World) (hs : s.toList = [76, 68, 65]) (h : RAt w b 0 r) (hr : r.ok) (hm : m < 256) : Calls Tryd.prog 45 #[.pointer (some ⟨b, 0, none⟩), .string s, .int .u8 (m : Int)] w fun e w' => e = .returned (.tuple #[]) ∧ RAt w' b 0 (rd s.toList r m) ∧ Turn b w w' := by
  have HE : Hid (rd s.toList r m = { r with a := m, p := mk r.p (m : Int) }) := by show _ = _; rw [hs]; rfl
  have H : Hid (RAt w b 0 ⟨r.a, r.x, r.y, r.s, r.p, r.pc⟩) := h
  obtain ⟨ha, hx, hy, hs2, hp, hpc⟩ := hr
  obtain ⟨h0, h1, h2, h3, h4, h5, hf⟩ := h
  simp only [Nat.zero_add] at h1 h2 h3 h4 h5
  go_enter Tryd.func45, Tryd.ntmps45
  repeat (first | (go_at_call 73; refine (putA b m r _ (by exact H.out) hm hp).mono ?_; rintro e w1 ⟨rfl, hR, hT⟩; dsimp only) | with_reducible refine then_exit ?_ | with_reducible refine inB_ne rfl ?_ | with_reducible refine inB_eq ?_ | with_reducible refine then_normal ?_ | with_reducible refine inB_normal ?_ | with_reducible refine then_ret ?_ | with_reducible refine inB_ret ?_ | go_step)
  all_goals go_returns
  all_goals exact ⟨rfl, by rw [HE.out]; exact hR, hT⟩

set_option maxRecDepth 100000 in
set_option maxHeartbeats 2000000 in
theorem read_LAX (b m : Nat) (s : ByteArray) (r : Rg) (w : World) (hs : s.toList = [76, 65, 88]) (h : RAt w b 0 r) (hr : r.ok) (hm : m < 256) : Calls Tryd.prog 45 #[.pointer (some ⟨b, 0, none⟩), .string s, .int .u8 (m : Int)] w fun e w' => e = .returned (.tuple #[]) ∧ RAt w' b 0 (rd s.toList r m) ∧ Turn b w w' := by
  have HE : Hid (rd s.toList r m = { r with a := m, x := m, p := mk r.p (m : Int) }) := by show _ = _; rw [hs]; rfl
  have H : Hid (RAt w b 0 ⟨r.a, r.x, r.y, r.s, r.p, r.pc⟩) := h
  obtain ⟨ha, hx, hy, hs2, hp, hpc⟩ := hr
  obtain ⟨h0, h1, h2, h3, h4, h5, hf⟩ := h
  simp only [Nat.zero_add] at h1 h2 h3 h4 h5
  go_enter Tryd.func45, Tryd.ntmps45
  repeat (first | (go_at_call 73; refine (putA b m ⟨r.a, m, r.y, r.s, r.p, r.pc⟩ _ (by exact H.out.put1 m) hm hp).mono ?_; rintro e w1 ⟨rfl, hR, hT⟩; dsimp only) | with_reducible refine then_exit ?_ | with_reducible refine inB_ne rfl ?_ | with_reducible refine inB_eq ?_ | with_reducible refine then_normal ?_ | with_reducible refine inB_normal ?_ | with_reducible refine then_ret ?_ | with_reducible refine inB_ret ?_ | go_step)
  all_goals go_returns
  all_goals exact ⟨rfl, by rw [HE.out]; exact hR, ((Turn.refl b _).set _ _).trans hT⟩

set_option maxRecDepth 100000 in
set_option maxHeartbeats 2000000 in
theorem read_LAS (b m : Nat) (s : ByteArray) (r : Rg) (w : World) (hs : s.toList = [76, 65, 83]) (h : RAt w b 0 r) (hr : r.ok) (hm : m < 256) : Calls Tryd.prog 45 #[.pointer (some ⟨b, 0, none⟩), .string s, .int .u8 (m : Int)] w fun e w' => e = .returned (.tuple #[]) ∧ RAt w' b 0 (rd s.toList r m) ∧ Turn b w w' := by
  have HE : Hid (rd s.toList r m = { r with a := m &&& r.s, x := m &&& r.s, s := m &&& r.s, p := mk r.p ((m &&& r.s : Nat) : Int) }) := by show _ = _; rw [hs]; rfl
  have H : Hid (RAt w b 0 ⟨r.a, r.x, r.y, r.s, r.p, r.pc⟩) := h
  obtain ⟨ha, hx, hy, hs2, hp, hpc⟩ := hr
  obtain ⟨h0, h1, h2, h3, h4, h5, hf⟩ := h
  simp only [Nat.zero_add] at h1 h2 h3 h4 h5
  have hO : bits .and .u8 (m : Int) (r.s : Int) = ((m &&& r.s : Nat) : Int) := u8_and_nat _ _ hm hs2
  have hl : m &&& r.s < 256 := and8 hs2
  go_enter Tryd.func45, Tryd.ntmps45
  repeat (first | (go_at_call 73; refine (putA b (m &&& r.s) ⟨r.a, m &&& r.s, r.y, m &&& r.s, r.p, r.pc⟩ _ (by exact RAt.put1 (RAt.put3 H.out (m &&& r.s)) (m &&& r.s)) hl hp).mono ?_; rintro e w1 ⟨rfl, hR, hT⟩; dsimp only) | with_reducible refine then_exit ?_ | with_reducible refine inB_ne rfl ?_ | with_reducible refine inB_eq ?_ | with_reducible refine then_normal ?_ | with_reducible refine inB_normal ?_ | with_reducible refine then_ret ?_ | with_reducible refine inB_ret ?_ | go_step)
  all_goals go_returns
  all_goals exact ⟨rfl, by rw [HE.out]; exact hR, (((Turn.refl b _).set _ _).set _ _).trans hT⟩

end Go.Proofs.YtelmohajdmcnmaaDoor.Ex
