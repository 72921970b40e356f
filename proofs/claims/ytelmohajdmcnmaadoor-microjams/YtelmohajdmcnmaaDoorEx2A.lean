/- What a byte that is read does: the bits of A. -/
import Derived.Test.YtelmohajdmcnmaaDoorEx2
import Derived.Deep.RegionWith
namespace Go.Proofs.YtelmohajdmcnmaaDoor.Ex
open Go.RowKit Alu
set_option linter.unusedVariables false

set_option maxRecDepth 100000 in
set_option maxHeartbeats 2000000 in
theorem read_ORA (b m : Nat) (s : ByteArray) (r : Rg) (w : World) (hs : s.toList = [79, 82, 65]) (h : RAt w b 0 r) (hr : r.ok) (hm : m < 256) : Calls Tryd.prog 45 #[.pointer (some ⟨b, 0, none⟩), .string s, .int .u8 (m : Int)] w fun e w' => e = .returned (.tuple #[]) ∧ RAt w' b 0 (rd s.toList r m) ∧ Turn b w w' := by
  have HE : Hid (rd s.toList r m = { r with a := r.a ||| m, p := mk r.p ((r.a ||| m : Nat) : Int) }) := by show _ = _; rw [hs]; rfl
  have H : Hid (RAt w b 0 ⟨r.a, r.x, r.y, r.s, r.p, r.pc⟩) := h
  obtain ⟨ha, hx, hy, hs2, hp, hpc⟩ := hr
  obtain ⟨h0, h1, h2, h3, h4, h5, hf⟩ := h
  simp only [Nat.zero_add] at h1 h2 h3 h4 h5
  have hO : bits .or .u8 (r.a : Int) (m : Int) = ((r.a ||| m : Nat) : Int) := u8_or_nat _ _ ha hm
  have hl : r.a ||| m < 256 := or8 ha hm
  go_enter Tryd.func45, Tryd.ntmps45
  repeat (first | with_reducible refine then_exit ?_ | with_reducible refine inB_ne rfl ?_ | with_reducible refine inB_eq ?_ | with_reducible refine then_normal ?_ | with_reducible refine inB_normal ?_ | with_reducible refine then_ret ?_ | with_reducible refine inB_ret ?_ | go_step)
  go_region_with (first
    | (go_at_call 73; refine (putA b (r.a ||| m) _ _ (by first | exact H.out.draws _ | exact H.out) hl hp).mono ?_; rintro e w1 ⟨rfl, hR, hT⟩))
  all_goals repeat (first | with_reducible refine then_exit ?_ | with_reducible refine inB_ne rfl ?_ | with_reducible refine inB_eq ?_ | with_reducible refine then_normal ?_ | with_reducible refine inB_normal ?_ | with_reducible refine then_ret ?_ | with_reducible refine inB_ret ?_ | go_step)
  all_goals go_returns
  all_goals exact ⟨rfl, by rw [HE.out]; exact hR, Turn.undraw (n := 1) (hT)⟩

set_option maxRecDepth 100000 in
set_option maxHeartbeats 2000000 in
theorem read_AND (b m : Nat) (s : ByteArray) (r : Rg) (w : World) (hs : s.toList = [65, 78, 68]) (h : RAt w b 0 r) (hr : r.ok) (hm : m < 256) : Calls Tryd.prog 45 #[.pointer (some ⟨b, 0, none⟩), .string s, .int .u8 (m : Int)] w fun e w' => e = .returned (.tuple #[]) ∧ RAt w' b 0 (rd s.toList r m) ∧ Turn b w w' := by
  have HE : Hid (rd s.toList r m = { r with a := r.a &&& m, p := mk r.p ((r.a &&& m : Nat) : Int) }) := by show _ = _; rw [hs]; rfl
  have H : Hid (RAt w b 0 ⟨r.a, r.x, r.y, r.s, r.p, r.pc⟩) := h
  obtain ⟨ha, hx, hy, hs2, hp, hpc⟩ := hr
  obtain ⟨h0, h1, h2, h3, h4, h5, hf⟩ := h
  simp only [Nat.zero_add] at h1 h2 h3 h4 h5
  have hO : bits .and .u8 (r.a : Int) (m : Int) = ((r.a &&& m : Nat) : Int) := u8_and_nat _ _ ha hm
  have hl : r.a &&& m < 256 := and8 hm
  go_enter Tryd.func45, Tryd.ntmps45
  repeat (first | with_reducible refine then_exit ?_ | with_reducible refine inB_ne rfl ?_ | with_reducible refine inB_eq ?_ | with_reducible refine then_normal ?_ | with_reducible refine inB_normal ?_ | with_reducible refine then_ret ?_ | with_reducible refine inB_ret ?_ | go_step)
  go_region_with (first
    | (go_at_call 73; refine (putA b (r.a &&& m) _ _ (by first | exact H.out.draws _ | exact H.out) hl hp).mono ?_; rintro e w1 ⟨rfl, hR, hT⟩))
  all_goals repeat (first | with_reducible refine then_exit ?_ | with_reducible refine inB_ne rfl ?_ | with_reducible refine inB_eq ?_ | with_reducible refine then_normal ?_ | with_reducible refine inB_normal ?_ | with_reducible refine then_ret ?_ | with_reducible refine inB_ret ?_ | go_step)
  all_goals go_returns
  all_goals exact ⟨rfl, by rw [HE.out]; exact hR, Turn.undraw (n := 1) (hT)⟩

set_option maxRecDepth 100000 in
set_option maxHeartbeats 2000000 in
theorem read_EOR (b m : Nat) (s : ByteArray) (r : Rg) (w : World) (hs : s.toList = [69, 79, 82]) (h : RAt w b 0 r) (hr : r.ok) (hm : m < 256) : Calls Tryd.prog 45 #[.pointer (some ⟨b, 0, none⟩), .string s, .int .u8 (m : Int)] w fun e w' => e = .returned (.tuple #[]) ∧ RAt w' b 0 (rd s.toList r m) ∧ Turn b w w' := by
  have HE : Hid (rd s.toList r m = { r with a := r.a ^^^ m, p := mk r.p ((r.a ^^^ m : Nat) : Int) }) := by show _ = _; rw [hs]; rfl
  have H : Hid (RAt w b 0 ⟨r.a, r.x, r.y, r.s, r.p, r.pc⟩) := h
  obtain ⟨ha, hx, hy, hs2, hp, hpc⟩ := hr
  obtain ⟨h0, h1, h2, h3, h4, h5, hf⟩ := h
  simp only [Nat.zero_add] at h1 h2 h3 h4 h5
  have hO : bits .xor .u8 (r.a : Int) (m : Int) = ((r.a ^^^ m : Nat) : Int) := u8_xor_nat _ _ ha hm
  have hl : r.a ^^^ m < 256 := xor8 ha hm
  go_enter Tryd.func45, Tryd.ntmps45
  repeat (first | with_reducible refine then_exit ?_ | with_reducible refine inB_ne rfl ?_ | with_reducible refine inB_eq ?_ | with_reducible refine then_normal ?_ | with_reducible refine inB_normal ?_ | with_reducible refine then_ret ?_ | with_reducible refine inB_ret ?_ | go_step)
  go_region_with (first
    | (go_at_call 73; refine (putA b (r.a ^^^ m) _ _ (by first | exact H.out.draws _ | exact H.out) hl hp).mono ?_; rintro e w1 ⟨rfl, hR, hT⟩))
  all_goals repeat (first | with_reducible refine then_exit ?_ | with_reducible refine inB_ne rfl ?_ | with_reducible refine inB_eq ?_ | with_reducible refine then_normal ?_ | with_reducible refine inB_normal ?_ | with_reducible refine then_ret ?_ | with_reducible refine inB_ret ?_ | go_step)
  all_goals go_returns
  all_goals exact ⟨rfl, by rw [HE.out]; exact hR, Turn.undraw (n := 1) (hT)⟩

set_option maxRecDepth 100000 in
set_option maxHeartbeats 2000000 in
theorem readTwice_ANC (b m : Nat) (s : ByteArray) (r : Rg) (w : World) (hs : s.toList = [65, 78, 67]) (h : RAt w b 0 r) (hr : r.ok) (hm : m < 256) : Calls Tryd.prog 78 #[.pointer (some ⟨b, 0, none⟩), .string s, .int .u8 (m : Int)] w fun e w' => e = .returned (.tuple #[]) ∧ RAt w' b 0 (rd s.toList r m) ∧ Turn b w w' := by
  have HE : Hid (rd s.toList r m = { r with a := r.a &&& m, p := W (mk r.p ((r.a &&& m : Nat) : Int)) 1 (decide (128 ≤ ((r.a &&& m : Nat) : Int))) }) := by show _ = _; rw [hs]; rfl
  have H : Hid (RAt w b 0 ⟨r.a, r.x, r.y, r.s, r.p, r.pc⟩) := h
  obtain ⟨ha, hx, hy, hs2, hp, hpc⟩ := hr
  obtain ⟨h0, h1, h2, h3, h4, h5, hf⟩ := h
  simp only [Nat.zero_add] at h1 h2 h3 h4 h5
  have hO : bits .and .u8 (r.a : Int) (m : Int) = ((r.a &&& m : Nat) : Int) := u8_and_nat _ _ ha hm
  have hl : r.a &&& m < 256 := and8 hm
  have HB : Hid ((bits .and .u8 ((r.a &&& m : Nat) : Int) 128 != 0) = decide (128 ≤ ((r.a &&& m : Nat) : Int))) := and128 _ hl
  go_enter Tryd.func78, Tryd.ntmps78
  repeat (first | with_reducible refine then_exit ?_ | with_reducible refine inB_ne rfl ?_ | with_reducible refine inB_eq ?_ | with_reducible refine then_normal ?_ | with_reducible refine inB_normal ?_ | with_reducible refine then_ret ?_ | with_reducible refine inB_ret ?_ | go_step)
  go_region_with (first
    | (go_at_call 73; refine (putA b (r.a &&& m) _ _ (by first | exact H.out.draws _ | exact H.out) hl hp).mono ?_; rintro e w1 ⟨rfl, hR, hT⟩; obtain ⟨g0, g1, g2, g3, g4, g5, gf⟩ := id hR; simp only [Nat.zero_add, mkR] at g0 g1 g2 g3 g4 g5))
  all_goals repeat (first | (go_at_call 98; refine (flag b 1 _ _ _ (by exact hR) (by exact mk_lt _ _ hp) (by decide)).mono ?_; rintro e w2 ⟨rfl, hR2, hT2⟩; dsimp only) | with_reducible refine then_exit ?_ | with_reducible refine inB_ne rfl ?_ | with_reducible refine inB_eq ?_ | with_reducible refine then_normal ?_ | with_reducible refine inB_normal ?_ | with_reducible refine then_ret ?_ | with_reducible refine inB_ret ?_ | go_step)
  all_goals go_returns
  all_goals exact ⟨rfl, by rw [HE.out]; exact (by rw [HB.out] at hR2; exact hR2), Turn.undraw (n := 1) (hT.trans hT2)⟩

set_option maxRecDepth 100000 in
set_option maxHeartbeats 2000000 in
theorem readTwice_ALR (b m : Nat) (s : ByteArray) (r : Rg) (w : World) (hs : s.toList = [65, 76, 82]) (h : RAt w b 0 r) (hr : r.ok) (hm : m < 256) : Calls Tryd.prog 78 #[.pointer (some ⟨b, 0, none⟩), .string s, .int .u8 (m : Int)] w fun e w' => e = .returned (.tuple #[]) ∧ RAt w' b 0 (rd s.toList r m) ∧ Turn b w w' := by
  have HE : Hid (rd s.toList r m = { r with a := rightN (r.a &&& m) r.p false, p := rightQ ((r.a &&& m : Nat) : Int) r.p false }) := by show _ = _; rw [hs]; rfl
  have H : Hid (RAt w b 0 ⟨r.a, r.x, r.y, r.s, r.p, r.pc⟩) := h
  obtain ⟨ha, hx, hy, hs2, hp, hpc⟩ := hr
  obtain ⟨h0, h1, h2, h3, h4, h5, hf⟩ := h
  simp only [Nat.zero_add] at h1 h2 h3 h4 h5
  have hO : bits .and .u8 (r.a : Int) (m : Int) = ((r.a &&& m : Nat) : Int) := u8_and_nat _ _ ha hm
  have hl : r.a &&& m < 256 := and8 hm
  go_enter Tryd.func78, Tryd.ntmps78
  repeat (first | with_reducible refine then_exit ?_ | with_reducible refine inB_ne rfl ?_ | with_reducible refine inB_eq ?_ | with_reducible refine then_normal ?_ | with_reducible refine inB_normal ?_ | with_reducible refine then_ret ?_ | with_reducible refine inB_ret ?_ | go_step)
  go_region_with (first
    | (go_at_call 80; refine (RightN (r.a &&& m) r.p false _ hl hp).mono ?_; rintro e w' ⟨rfl, rfl⟩))
  all_goals repeat (first | with_reducible refine then_exit ?_ | with_reducible refine inB_ne rfl ?_ | with_reducible refine inB_eq ?_ | with_reducible refine then_normal ?_ | with_reducible refine inB_normal ?_ | with_reducible refine then_ret ?_ | with_reducible refine inB_ret ?_ | go_step)
  all_goals go_returns
  all_goals exact ⟨rfl, by rw [HE.out]; exact RAt.put4 (RAt.put0 (H.out.draws 1) _) _, Turn.undraw (n := 1) (((Turn.refl b _).set _ _).set _ _)⟩

set_option maxRecDepth 100000 in
set_option maxHeartbeats 2000000 in
theorem readTwice_ANE (b m : Nat) (s : ByteArray) (r : Rg) (w : World) (hs : s.toList = [65, 78, 69]) (h : RAt w b 0 r) (hr : r.ok) (hm : m < 256) : Calls Tryd.prog 78 #[.pointer (some ⟨b, 0, none⟩), .string s, .int .u8 (m : Int)] w fun e w' => e = .returned (.tuple #[]) ∧ RAt w' b 0 (rd s.toList r m) ∧ Turn b w w' := by
  have HE : Hid (rd s.toList r m = { r with a := (r.a ||| 238) &&& r.x &&& m, p := mk r.p (((r.a ||| 238) &&& r.x &&& m : Nat) : Int) }) := by show _ = _; rw [hs]; rfl
  have H : Hid (RAt w b 0 ⟨r.a, r.x, r.y, r.s, r.p, r.pc⟩) := h
  obtain ⟨ha, hx, hy, hs2, hp, hpc⟩ := hr
  obtain ⟨h0, h1, h2, h3, h4, h5, hf⟩ := h
  simp only [Nat.zero_add] at h1 h2 h3 h4 h5
  have hO : bits .or .u8 (r.a : Int) 238 = ((r.a ||| 238 : Nat) : Int) := u8_or_nat _ _ ha (by decide)
  have hO2 : bits .and .u8 ((r.a ||| 238 : Nat) : Int) (r.x : Int) = (((r.a ||| 238) &&& r.x : Nat) : Int) := u8_and_nat _ _ (or8 ha (by decide)) hx
  have hO3 : bits .and .u8 (((r.a ||| 238) &&& r.x : Nat) : Int) (m : Int) = (((r.a ||| 238) &&& r.x &&& m : Nat) : Int) := u8_and_nat _ _ (and8 hx) hm
  have hl : (r.a ||| 238) &&& r.x &&& m < 256 := and8 hm
  go_enter Tryd.func78, Tryd.ntmps78
  repeat (first | with_reducible refine then_exit ?_ | with_reducible refine inB_ne rfl ?_ | with_reducible refine inB_eq ?_ | with_reducible refine then_normal ?_ | with_reducible refine inB_normal ?_ | with_reducible refine then_ret ?_ | with_reducible refine inB_ret ?_ | go_step)
  go_region_with (first
    | (go_at_call 73; refine (putA b ((r.a ||| 238) &&& r.x &&& m) _ _ (by first | exact H.out.draws _ | exact H.out) hl hp).mono ?_; rintro e w1 ⟨rfl, hR, hT⟩))
  all_goals repeat (first | with_reducible refine then_exit ?_ | with_reducible refine inB_ne rfl ?_ | with_reducible refine inB_eq ?_ | with_reducible refine then_normal ?_ | with_reducible refine inB_normal ?_ | with_reducible refine then_ret ?_ | with_reducible refine inB_ret ?_ | go_step)
  all_goals go_returns
  all_goals exact ⟨rfl, by rw [HE.out]; exact hR, Turn.undraw (n := 1) (hT)⟩

end Go.Proofs.YtelmohajdmcnmaaDoor.Ex
