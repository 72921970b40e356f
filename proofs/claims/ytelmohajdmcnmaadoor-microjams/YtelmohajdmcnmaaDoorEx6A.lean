/- What a byte becomes: shifts. -/
import Derived.Test.YtelmohajdmcnmaaDoorEx6
import Derived.Deep.RegionWith
namespace Go.Proofs.YtelmohajdmcnmaaDoor.Ex
open Go.RowKit Alu
set_option linter.unusedVariables false

set_option maxRecDepth 100000 in
set_option maxHeartbeats 2000000 in
theorem turn_ASL (b m : Nat) (s : ByteArray) (r : Rg) (w : World) (hs : s.toList = [65, 83, 76]) (h : RAt w b 0 r) (hr : r.ok) (hm : m < 256) : Calls Tryd.prog 47 #[.pointer (some ⟨b, 0, none⟩), .string s, .int .u8 (m : Int)] w fun e w' => e = .returned (.int .u8 ((tuV s.toList r m : Nat) : Int)) ∧ RAt w' b 0 (tuR s.toList r m) ∧ Turn b w w' := by
  have HV : Hid (tuV s.toList r m = leftN m r.p false) := by show _ = _; rw [hs]; rfl
  have HR : Hid (tuR s.toList r m = { r with p := leftQ m r.p false }) := by show _ = _; rw [hs]; rfl
  have H : Hid (RAt w b 0 ⟨r.a, r.x, r.y, r.s, r.p, r.pc⟩) := h
  have hlt : Hid (b < w.heap.size) := h.lt
  have HA : Hid (∀ X, RAt (w.alloc X) b 0 ⟨r.a, r.x, r.y, r.s, r.p, r.pc⟩) := fun X => h.alloc X
  have g4 : ∀ X, (w.alloc X).cell? ⟨b, 4, none⟩ = some (.int .u8 (r.p : Int)) := fun X => by have := (h.alloc X).c4; simpa using this
  have gf : ∀ X j, (w.alloc X).frozen? ⟨b, j, none⟩ = false := fun X j => (h.alloc X).fz j
  obtain ⟨ha, hx, hy, hs2, hp, hpc⟩ := hr
  clear h
  go_enter Tryd.func47, Tryd.ntmps47
  repeat (first | with_reducible refine then_exit ?_ | with_reducible refine inB_ne rfl ?_ | with_reducible refine inB_eq ?_ | with_reducible refine then_normal ?_ | with_reducible refine inB_normal ?_ | with_reducible refine then_ret ?_ | with_reducible refine inB_ret ?_ | go_step)
  go_region_with (first
    | (go_at_call 79; refine (LeftN m r.p false _ hm hp).mono ?_; rintro e w' ⟨rfl, rfl⟩))
  all_goals repeat (first | with_reducible refine then_exit ?_ | with_reducible refine inB_ne rfl ?_ | with_reducible refine inB_eq ?_ | with_reducible refine then_normal ?_ | with_reducible refine inB_normal ?_ | with_reducible refine then_ret ?_ | with_reducible refine inB_ret ?_ | go_step)
  all_goals go_returns
  all_goals exact ⟨by rw [HV.out]; rfl, by rw [HR.out]; exact ((HA.out _).put4 _).draws 1, ((Turn.of_below ((Below.refl _ _).alloc (Nat.le_refl _) _)).set _ _).draws 1⟩

set_option maxRecDepth 100000 in
set_option maxHeartbeats 2000000 in
theorem turn_ROL (b m : Nat) (s : ByteArray) (r : Rg) (w : World) (hs : s.toList = [82, 79, 76]) (h : RAt w b 0 r) (hr : r.ok) (hm : m < 256) : Calls Tryd.prog 47 #[.pointer (some ⟨b, 0, none⟩), .string s, .int .u8 (m : Int)] w fun e w' => e = .returned (.int .u8 ((tuV s.toList r m : Nat) : Int)) ∧ RAt w' b 0 (tuR s.toList r m) ∧ Turn b w w' := by
  have HV : Hid (tuV s.toList r m = leftN m r.p true) := by show _ = _; rw [hs]; rfl
  have HR : Hid (tuR s.toList r m = { r with p := leftQ m r.p true }) := by show _ = _; rw [hs]; rfl
  have H : Hid (RAt w b 0 ⟨r.a, r.x, r.y, r.s, r.p, r.pc⟩) := h
  have hlt : Hid (b < w.heap.size) := h.lt
  have HA : Hid (∀ X, RAt (w.alloc X) b 0 ⟨r.a, r.x, r.y, r.s, r.p, r.pc⟩) := fun X => h.alloc X
  have g4 : ∀ X, (w.alloc X).cell? ⟨b, 4, none⟩ = some (.int .u8 (r.p : Int)) := fun X => by have := (h.alloc X).c4; simpa using this
  have gf : ∀ X j, (w.alloc X).frozen? ⟨b, j, none⟩ = false := fun X j => (h.alloc X).fz j
  obtain ⟨ha, hx, hy, hs2, hp, hpc⟩ := hr
  clear h
  go_enter Tryd.func47, Tryd.ntmps47
  repeat (first | with_reducible refine then_exit ?_ | with_reducible refine inB_ne rfl ?_ | with_reducible refine inB_eq ?_ | with_reducible refine then_normal ?_ | with_reducible refine inB_normal ?_ | with_reducible refine then_ret ?_ | with_reducible refine inB_ret ?_ | go_step)
  go_region_with (first
    | (go_at_call 79; refine (LeftN m r.p true _ hm hp).mono ?_; rintro e w' ⟨rfl, rfl⟩))
  all_goals repeat (first | with_reducible refine then_exit ?_ | with_reducible refine inB_ne rfl ?_ | with_reducible refine inB_eq ?_ | with_reducible refine then_normal ?_ | with_reducible refine inB_normal ?_ | with_reducible refine then_ret ?_ | with_reducible refine inB_ret ?_ | go_step)
  all_goals go_returns
  all_goals exact ⟨by rw [HV.out]; rfl, by rw [HR.out]; exact ((HA.out _).put4 _).draws 1, ((Turn.of_below ((Below.refl _ _).alloc (Nat.le_refl _) _)).set _ _).draws 1⟩

set_option maxRecDepth 100000 in
set_option maxHeartbeats 2000000 in
theorem turn_LSR (b m : Nat) (s : ByteArray) (r : Rg) (w : World) (hs : s.toList = [76, 83, 82]) (h : RAt w b 0 r) (hr : r.ok) (hm : m < 256) : Calls Tryd.prog 47 #[.pointer (some ⟨b, 0, none⟩), .string s, .int .u8 (m : Int)] w fun e w' => e = .returned (.int .u8 ((tuV s.toList r m : Nat) : Int)) ∧ RAt w' b 0 (tuR s.toList r m) ∧ Turn b w w' := by
  have HV : Hid (tuV s.toList r m = rightN m r.p false) := by show _ = _; rw [hs]; rfl
  have HR : Hid (tuR s.toList r m = { r with p := rightQ m r.p false }) := by show _ = _; rw [hs]; rfl
  have H : Hid (RAt w b 0 ⟨r.a, r.x, r.y, r.s, r.p, r.pc⟩) := h
  have hlt : Hid (b < w.heap.size) := h.lt
  have HA : Hid (∀ X, RAt (w.alloc X) b 0 ⟨r.a, r.x, r.y, r.s, r.p, r.pc⟩) := fun X => h.alloc X
  have g4 : ∀ X, (w.alloc X).cell? ⟨b, 4, none⟩ = some (.int .u8 (r.p : Int)) := fun X => by have := (h.alloc X).c4; simpa using this
  have gf : ∀ X j, (w.alloc X).frozen? ⟨b, j, none⟩ = false := fun X j => (h.alloc X).fz j
  obtain ⟨ha, hx, hy, hs2, hp, hpc⟩ := hr
  clear h
  go_enter Tryd.func47, Tryd.ntmps47
  repeat (first | with_reducible refine then_exit ?_ | with_reducible refine inB_ne rfl ?_ | with_reducible refine inB_eq ?_ | with_reducible refine then_normal ?_ | with_reducible refine inB_normal ?_ | with_reducible refine then_ret ?_ | with_reducible refine inB_ret ?_ | go_step)
  go_region_with (first
    | (go_at_call 80; refine (RightN m r.p false _ hm hp).mono ?_; rintro e w' ⟨rfl, rfl⟩))
  all_goals repeat (first | with_reducible refine then_exit ?_ | with_reducible refine inB_ne rfl ?_ | with_reducible refine inB_eq ?_ | with_reducible refine then_normal ?_ | with_reducible refine inB_normal ?_ | with_reducible refine then_ret ?_ | with_reducible refine inB_ret ?_ | go_step)
  all_goals go_returns
  all_goals exact ⟨by rw [HV.out]; rfl, by rw [HR.out]; exact ((HA.out _).put4 _).draws 1, ((Turn.of_below ((Below.refl _ _).alloc (Nat.le_refl _) _)).set _ _).draws 1⟩

set_option maxRecDepth 100000 in
set_option maxHeartbeats 2000000 in
theorem turn_ROR (b m : Nat) (s : ByteArray) (r : Rg) (w : World) (hs : s.toList = [82, 79, 82]) (h : RAt w b 0 r) (hr : r.ok) (hm : m < 256) : Calls Tryd.prog 47 #[.pointer (some ⟨b, 0, none⟩), .string s, .int .u8 (m : Int)] w fun e w' => e = .returned (.int .u8 ((tuV s.toList r m : Nat) : Int)) ∧ RAt w' b 0 (tuR s.toList r m) ∧ Turn b w w' := by
  have HV : Hid (tuV s.toList r m = rightN m r.p true) := by show _ = _; rw [hs]; rfl
  have HR : Hid (tuR s.toList r m = { r with p := rightQ m r.p true }) := by show _ = _; rw [hs]; rfl
  have H : Hid (RAt w b 0 ⟨r.a, r.x, r.y, r.s, r.p, r.pc⟩) := h
  have hlt : Hid (b < w.heap.size) := h.lt
  have HA : Hid (∀ X, RAt (w.alloc X) b 0 ⟨r.a, r.x, r.y, r.s, r.p, r.pc⟩) := fun X => h.alloc X
  have g4 : ∀ X, (w.alloc X).cell? ⟨b, 4, none⟩ = some (.int .u8 (r.p : Int)) := fun X => by have := (h.alloc X).c4; simpa using this
  have gf : ∀ X j, (w.alloc X).frozen? ⟨b, j, none⟩ = false := fun X j => (h.alloc X).fz j
  obtain ⟨ha, hx, hy, hs2, hp, hpc⟩ := hr
  clear h
  go_enter Tryd.func47, Tryd.ntmps47
  repeat (first | with_reducible refine then_exit ?_ | with_reducible refine inB_ne rfl ?_ | with_reducible refine inB_eq ?_ | with_reducible refine then_normal ?_ | with_reducible refine inB_normal ?_ | with_reducible refine then_ret ?_ | with_reducible refine inB_ret ?_ | go_step)
  go_region_with (first
    | (go_at_call 80; refine (RightN m r.p true _ hm hp).mono ?_; rintro e w' ⟨rfl, rfl⟩))
  all_goals repeat (first | with_reducible refine then_exit ?_ | with_reducible refine inB_ne rfl ?_ | with_reducible refine inB_eq ?_ | with_reducible refine then_normal ?_ | with_reducible refine inB_normal ?_ | with_reducible refine then_ret ?_ | with_reducible refine inB_ret ?_ | go_step)
  all_goals go_returns
  all_goals exact ⟨by rw [HV.out]; rfl, by rw [HR.out]; exact ((HA.out _).put4 _).draws 1, ((Turn.of_below ((Below.refl _ _).alloc (Nat.le_refl _) _)).set _ _).draws 1⟩

end Go.Proofs.YtelmohajdmcnmaaDoor.Ex
