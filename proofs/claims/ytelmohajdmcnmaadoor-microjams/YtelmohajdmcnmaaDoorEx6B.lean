/- What a byte becomes: one more, one less. -/
import Derived.Test.YtelmohajdmcnmaaDoorEx6
import Derived.Deep.RegionWith
namespace Go.Proofs.YtelmohajdmcnmaaDoor.Ex
open Go.RowKit Alu
set_option linter.unusedVariables false

set_option maxRecDepth 100000 in
set_option maxHeartbeats 2000000 in
theorem turn_INC (b m : Nat) (s : ByteArray) (r : Rg) (w : World) (hs : s.toList = [73, 78, 67]) (h : RAt w b 0 r) (hr : r.ok) (hm : m < 256) : Calls Tryd.prog 47 #[.pointer (some ⟨b, 0, none⟩), .string s, .int .u8 (m : Int)] w fun e w' => e = .returned (.int .u8 ((tuV s.toList r m : Nat) : Int)) ∧ RAt w' b 0 (tuR s.toList r m) ∧ Turn b w w' := by
  have HV : Hid (tuV s.toList r m = (m + 1) % 256) := by show _ = _; rw [hs]; rfl
  have HR : Hid (tuR s.toList r m = mkR r ((m + 1) % 256)) := by show _ = _; rw [hs]; rfl
  have H : Hid (RAt w b 0 ⟨r.a, r.x, r.y, r.s, r.p, r.pc⟩) := h
  have hlt : Hid (b < w.heap.size) := h.lt
  have HA : Hid (∀ X, RAt (w.alloc X) b 0 ⟨r.a, r.x, r.y, r.s, r.p, r.pc⟩) := fun X => h.alloc X
  have g4 : ∀ X, (w.alloc X).cell? ⟨b, 4, none⟩ = some (.int .u8 (r.p : Int)) := fun X => by have := (h.alloc X).c4; simpa using this
  have gf : ∀ X j, (w.alloc X).frozen? ⟨b, j, none⟩ = false := fun X j => (h.alloc X).fz j
  obtain ⟨ha, hx, hy, hs2, hp, hpc⟩ := hr
  clear h
  have HO : Hid (IntKind.u8.wrap ((m : Int) + 1) = (((m + 1) % 256 : Nat) : Int)) := by show _ = _; rw [IntKind.wrap_u8]; omega
  have HO2 : Hid (((m : Int) + 1) % 256 = (((m + 1) % 256 : Nat) : Int)) := by show _ = _; omega
  have hl : (m + 1) % 256 < 256 := by omega
  have HC : Hid (∀ v : Value, ∀ t, (w.alloc (.cells #[v] t)).cell? ⟨w.heap.size, 0, none⟩ = some v ∧ (w.alloc (.cells #[v] t)).frozen? ⟨w.heap.size, 0, none⟩ = false) := fun v t => new_cell w v t
  go_enter Tryd.func47, Tryd.ntmps47
  repeat (first | (go_at_call 73; (first | rw [HO.out] | rw [HO2.out]); refine (putM b w.heap.size m ((m + 1) % 256) r _ (HA.out _) hl hp (HC.out _ _).1 (HC.out _ _).2 (by have := hlt.out; omega)).mono ?_; rintro e w1 ⟨rfl, hR, hc1, hT⟩; dsimp only) | with_reducible refine then_exit ?_ | with_reducible refine inB_ne rfl ?_ | with_reducible refine inB_eq ?_ | with_reducible refine then_normal ?_ | with_reducible refine inB_normal ?_ | with_reducible refine then_ret ?_ | with_reducible refine inB_ret ?_ | go_step)
  all_goals go_returns
  all_goals exact ⟨by rw [HV.out]; rfl, by rw [HR.out]; exact hR, ⟨hT.os, hT.tape, hT.output, Nat.le_trans (by simp) hT.size, fun k h1 h2 => (hT.block k (by simp; omega) h2 (by omega)).trans (((Below.refl _ _).alloc (Nat.le_refl _) _).block k h1)⟩⟩

set_option maxRecDepth 100000 in
set_option maxHeartbeats 2000000 in
theorem turn_DEC (b m : Nat) (s : ByteArray) (r : Rg) (w : World) (hs : s.toList = [68, 69, 67]) (h : RAt w b 0 r) (hr : r.ok) (hm : m < 256) : Calls Tryd.prog 47 #[.pointer (some ⟨b, 0, none⟩), .string s, .int .u8 (m : Int)] w fun e w' => e = .returned (.int .u8 ((tuV s.toList r m : Nat) : Int)) ∧ RAt w' b 0 (tuR s.toList r m) ∧ Turn b w w' := by
  have HV : Hid (tuV s.toList r m = (m + 255) % 256) := by show _ = _; rw [hs]; rfl
  have HR : Hid (tuR s.toList r m = mkR r ((m + 255) % 256)) := by show _ = _; rw [hs]; rfl
  have H : Hid (RAt w b 0 ⟨r.a, r.x, r.y, r.s, r.p, r.pc⟩) := h
  have hlt : Hid (b < w.heap.size) := h.lt
  have HA : Hid (∀ X, RAt (w.alloc X) b 0 ⟨r.a, r.x, r.y, r.s, r.p, r.pc⟩) := fun X => h.alloc X
  have g4 : ∀ X, (w.alloc X).cell? ⟨b, 4, none⟩ = some (.int .u8 (r.p : Int)) := fun X => by have := (h.alloc X).c4; simpa using this
  have gf : ∀ X j, (w.alloc X).frozen? ⟨b, j, none⟩ = false := fun X j => (h.alloc X).fz j
  obtain ⟨ha, hx, hy, hs2, hp, hpc⟩ := hr
  clear h
  have HO : Hid (IntKind.u8.wrap ((m : Int) - 1) = (((m + 255) % 256 : Nat) : Int)) := by show _ = _; rw [IntKind.wrap_u8]; omega
  have HO2 : Hid (((m : Int) - 1) % 256 = (((m + 255) % 256 : Nat) : Int)) := by show _ = _; omega
  have hl : (m + 255) % 256 < 256 := by omega
  have HC : Hid (∀ v : Value, ∀ t, (w.alloc (.cells #[v] t)).cell? ⟨w.heap.size, 0, none⟩ = some v ∧ (w.alloc (.cells #[v] t)).frozen? ⟨w.heap.size, 0, none⟩ = false) := fun v t => new_cell w v t
  go_enter Tryd.func47, Tryd.ntmps47
  repeat (first | (go_at_call 73; (first | rw [HO.out] | rw [HO2.out]); refine (putM b w.heap.size m ((m + 255) % 256) r _ (HA.out _) hl hp (HC.out _ _).1 (HC.out _ _).2 (by have := hlt.out; omega)).mono ?_; rintro e w1 ⟨rfl, hR, hc1, hT⟩; dsimp only) | with_reducible refine then_exit ?_ | with_reducible refine inB_ne rfl ?_ | with_reducible refine inB_eq ?_ | with_reducible refine then_normal ?_ | with_reducible refine inB_normal ?_ | with_reducible refine then_ret ?_ | with_reducible refine inB_ret ?_ | go_step)
  all_goals go_returns
  all_goals exact ⟨by rw [HV.out]; rfl, by rw [HR.out]; exact hR, ⟨hT.os, hT.tape, hT.output, Nat.le_trans (by simp) hT.size, fun k h1 h2 => (hT.block k (by simp; omega) h2 (by omega)).trans (((Below.refl _ _).alloc (Nat.le_refl _) _).block k h1)⟩⟩

end Go.Proofs.YtelmohajdmcnmaaDoor.Ex
