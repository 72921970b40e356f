/- The byte that is written. -/
import Derived.Test.YtelmohajdmcnmaaDoorEx2
namespace Go.Proofs.YtelmohajdmcnmaaDoor.Ex
open Go.RowKit Alu
set_option linter.unusedVariables false

set_option maxRecDepth 100000 in
set_option maxHeartbeats 2000000 in
theorem store_STA (b h0 : Nat) (s : ByteArray) (r : Rg) (w : World) (hs : s.toList = [83, 84, 65]) (h : RAt w b 0 r) (hr : r.ok) (hh : h0 < 256) : Calls Tryd.prog 46 #[.pointer (some ⟨b, 0, none⟩), .string s, .int .u8 (h0 : Int)] w fun e w' => e = .returned (.int .u8 ((stV s.toList r h0 : Nat) : Int)) ∧ RAt w' b 0 (stR s.toList r) ∧ Turn b w w' := by
  have HV : Hid (stV s.toList r h0 = r.a) := by show _ = _; rw [hs]; rfl
  have HR : Hid (stR s.toList r = r) := by show _ = _; rw [hs]; rfl
  have H : Hid (RAt w b 0 ⟨r.a, r.x, r.y, r.s, r.p, r.pc⟩) := h
  obtain ⟨ha, hx, hy, hs2, hp, hpc⟩ := hr
  obtain ⟨h0', h1, h2, h3, h4, h5, hf⟩ := h
  simp only [Nat.zero_add] at h1 h2 h3 h4 h5
  have f1 : bits .and .u8 (r.a : Int) (r.x : Int) = ((r.a &&& r.x : Nat) : Int) := u8_and_nat _ _ ha hx
  have f2 : bits .and .u8 ((r.a &&& r.x : Nat) : Int) (h0 : Int) = ((r.a &&& r.x &&& h0 : Nat) : Int) := u8_and_nat _ _ (and8 hx) hh
  have f3 : bits .and .u8 (r.x : Int) (h0 : Int) = ((r.x &&& h0 : Nat) : Int) := u8_and_nat _ _ hx hh
  have f4 : bits .and .u8 (r.y : Int) (h0 : Int) = ((r.y &&& h0 : Nat) : Int) := u8_and_nat _ _ hy hh
  go_enter Tryd.func46, Tryd.ntmps46
  repeat (first | with_reducible refine then_exit ?_ | with_reducible refine inB_ne rfl ?_ | with_reducible refine inB_eq ?_ | with_reducible refine then_normal ?_ | with_reducible refine inB_normal ?_ | with_reducible refine then_ret ?_ | with_reducible refine inB_ret ?_ | go_step)
  
  all_goals repeat (first | with_reducible refine then_exit ?_ | with_reducible refine inB_ne rfl ?_ | with_reducible refine inB_eq ?_ | with_reducible refine then_normal ?_ | with_reducible refine inB_normal ?_ | with_reducible refine then_ret ?_ | with_reducible refine inB_ret ?_ | go_step)
  
  
  all_goals go_returns
  all_goals exact ⟨by rw [HV.out]; rfl, by rw [HR.out]; first | exact H.out | exact H.out.draws _, by first | exact Turn.refl b _ | exact (Turn.refl b _).draws _⟩

set_option maxRecDepth 100000 in
set_option maxHeartbeats 2000000 in
theorem store_STX (b h0 : Nat) (s : ByteArray) (r : Rg) (w : World) (hs : s.toList = [83, 84, 88]) (h : RAt w b 0 r) (hr : r.ok) (hh : h0 < 256) : Calls Tryd.prog 46 #[.pointer (some ⟨b, 0, none⟩), .string s, .int .u8 (h0 : Int)] w fun e w' => e = .returned (.int .u8 ((stV s.toList r h0 : Nat) : Int)) ∧ RAt w' b 0 (stR s.toList r) ∧ Turn b w w' := by
  have HV : Hid (stV s.toList r h0 = r.x) := by show _ = _; rw [hs]; rfl
  have HR : Hid (stR s.toList r = r) := by show _ = _; rw [hs]; rfl
  have H : Hid (RAt w b 0 ⟨r.a, r.x, r.y, r.s, r.p, r.pc⟩) := h
  obtain ⟨ha, hx, hy, hs2, hp, hpc⟩ := hr
  obtain ⟨h0', h1, h2, h3, h4, h5, hf⟩ := h
  simp only [Nat.zero_add] at h1 h2 h3 h4 h5
  have f1 : bits .and .u8 (r.a : Int) (r.x : Int) = ((r.a &&& r.x : Nat) : Int) := u8_and_nat _ _ ha hx
  have f2 : bits .and .u8 ((r.a &&& r.x : Nat) : Int) (h0 : Int) = ((r.a &&& r.x &&& h0 : Nat) : Int) := u8_and_nat _ _ (and8 hx) hh
  have f3 : bits .and .u8 (r.x : Int) (h0 : Int) = ((r.x &&& h0 : Nat) : Int) := u8_and_nat _ _ hx hh
  have f4 : bits .and .u8 (r.y : Int) (h0 : Int) = ((r.y &&& h0 : Nat) : Int) := u8_and_nat _ _ hy hh
  go_enter Tryd.func46, Tryd.ntmps46
  repeat (first | with_reducible refine then_exit ?_ | with_reducible refine inB_ne rfl ?_ | with_reducible refine inB_eq ?_ | with_reducible refine then_normal ?_ | with_reducible refine inB_normal ?_ | with_reducible refine then_ret ?_ | with_reducible refine inB_ret ?_ | go_step)
  
  all_goals repeat (first | with_reducible refine then_exit ?_ | with_reducible refine inB_ne rfl ?_ | with_reducible refine inB_eq ?_ | with_reducible refine then_normal ?_ | with_reducible refine inB_normal ?_ | with_reducible refine then_ret ?_ | with_reducible refine inB_ret ?_ | go_step)
  
  
  all_goals go_returns
  all_goals exact ⟨by rw [HV.out]; rfl, by rw [HR.out]; first | exact H.out | exact H.out.draws _, by first | exact Turn.refl b _ | exact (Turn.refl b _).draws _⟩

set_option maxRecDepth 100000 in
set_option maxHeartbeats 2000000 in
theorem store_STY (b h0 : Nat) (s : ByteArray) (r : Rg) (w : World) (hs : s.toList = [83, 84, 89]) (h : RAt w b 0 r) (hr : r.ok) (hh : h0 < 256) : Calls Tryd.prog 46 #[.pointer (some ⟨b, 0, none⟩), .string s, .int .u8 (h0 : Int)] w fun e w' => e = .returned (.int .u8 ((stV s.toList r h0 : Nat) : Int)) ∧ RAt w' b 0 (stR s.toList r) ∧ Turn b w w' := by
  have HV : Hid (stV s.toList r h0 = r.y) := by show _ = _; rw [hs]; rfl
  have HR : Hid (stR s.toList r = r) := by show _ = _; rw [hs]; rfl
  have H : Hid (RAt w b 0 ⟨r.a, r.x, r.y, r.s, r.p, r.pc⟩) := h
  obtain ⟨ha, hx, hy, hs2, hp, hpc⟩ := hr
  obtain ⟨h0', h1, h2, h3, h4, h5, hf⟩ := h
  simp only [Nat.zero_add] at h1 h2 h3 h4 h5
  have f1 : bits .and .u8 (r.a : Int) (r.x : Int) = ((r.a &&& r.x : Nat) : Int) := u8_and_nat _ _ ha hx
  have f2 : bits .and .u8 ((r.a &&& r.x : Nat) : Int) (h0 : Int) = ((r.a &&& r.x &&& h0 : Nat) : Int) := u8_and_nat _ _ (and8 hx) hh
  have f3 : bits .and .u8 (r.x : Int) (h0 : Int) = ((r.x &&& h0 : Nat) : Int) := u8_and_nat _ _ hx hh
  have f4 : bits .and .u8 (r.y : Int) (h0 : Int) = ((r.y &&& h0 : Nat) : Int) := u8_and_nat _ _ hy hh
  go_enter Tryd.func46, Tryd.ntmps46
  repeat (first | with_reducible refine then_exit ?_ | with_reducible refine inB_ne rfl ?_ | with_reducible refine inB_eq ?_ | with_reducible refine then_normal ?_ | with_reducible refine inB_normal ?_ | with_reducible refine then_ret ?_ | with_reducible refine inB_ret ?_ | go_step)
  
  all_goals repeat (first | with_reducible refine then_exit ?_ | with_reducible refine inB_ne rfl ?_ | with_reducible refine inB_eq ?_ | with_reducible refine then_normal ?_ | with_reducible refine inB_normal ?_ | with_reducible refine then_ret ?_ | with_reducible refine inB_ret ?_ | go_step)
  
  
  all_goals go_returns
  all_goals exact ⟨by rw [HV.out]; rfl, by rw [HR.out]; first | exact H.out | exact H.out.draws _, by first | exact Turn.refl b _ | exact (Turn.refl b _).draws _⟩

set_option maxRecDepth 100000 in
set_option maxHeartbeats 2000000 in
theorem store_SAX (b h0 : Nat) (s : ByteArray) (r : Rg) (w : World) (hs : s.toList = [83, 65, 88]) (h : RAt w b 0 r) (hr : r.ok) (hh : h0 < 256) : Calls Tryd.prog 46 #[.pointer (some ⟨b, 0, none⟩), .string s, .int .u8 (h0 : Int)] w fun e w' => e = .returned (.int .u8 ((stV s.toList r h0 : Nat) : Int)) ∧ RAt w' b 0 (stR s.toList r) ∧ Turn b w w' := by
  have HV : Hid (stV s.toList r h0 = r.a &&& r.x) := by show _ = _; rw [hs]; rfl
  have HR : Hid (stR s.toList r = r) := by show _ = _; rw [hs]; rfl
  have H : Hid (RAt w b 0 ⟨r.a, r.x, r.y, r.s, r.p, r.pc⟩) := h
  obtain ⟨ha, hx, hy, hs2, hp, hpc⟩ := hr
  obtain ⟨h0', h1, h2, h3, h4, h5, hf⟩ := h
  simp only [Nat.zero_add] at h1 h2 h3 h4 h5
  have f1 : bits .and .u8 (r.a : Int) (r.x : Int) = ((r.a &&& r.x : Nat) : Int) := u8_and_nat _ _ ha hx
  have f2 : bits .and .u8 ((r.a &&& r.x : Nat) : Int) (h0 : Int) = ((r.a &&& r.x &&& h0 : Nat) : Int) := u8_and_nat _ _ (and8 hx) hh
  have f3 : bits .and .u8 (r.x : Int) (h0 : Int) = ((r.x &&& h0 : Nat) : Int) := u8_and_nat _ _ hx hh
  have f4 : bits .and .u8 (r.y : Int) (h0 : Int) = ((r.y &&& h0 : Nat) : Int) := u8_and_nat _ _ hy hh
  go_enter Tryd.func46, Tryd.ntmps46
  repeat (first | with_reducible refine then_exit ?_ | with_reducible refine inB_ne rfl ?_ | with_reducible refine inB_eq ?_ | with_reducible refine then_normal ?_ | with_reducible refine inB_normal ?_ | with_reducible refine then_ret ?_ | with_reducible refine inB_ret ?_ | go_step)
  all_goals go_region
  all_goals repeat (first | with_reducible refine then_exit ?_ | with_reducible refine inB_ne rfl ?_ | with_reducible refine inB_eq ?_ | with_reducible refine then_normal ?_ | with_reducible refine inB_normal ?_ | with_reducible refine then_ret ?_ | with_reducible refine inB_ret ?_ | go_step)
  
  
  all_goals go_returns
  all_goals exact ⟨by rw [HV.out]; rfl, by rw [HR.out]; first | exact H.out | exact H.out.draws _, by first | exact Turn.refl b _ | exact (Turn.refl b _).draws _⟩

set_option maxRecDepth 100000 in
set_option maxHeartbeats 2000000 in
theorem store_TAS (b h0 : Nat) (s : ByteArray) (r : Rg) (w : World) (hs : s.toList = [84, 65, 83]) (h : RAt w b 0 r) (hr : r.ok) (hh : h0 < 256) : Calls Tryd.prog 46 #[.pointer (some ⟨b, 0, none⟩), .string s, .int .u8 (h0 : Int)] w fun e w' => e = .returned (.int .u8 ((stV s.toList r h0 : Nat) : Int)) ∧ RAt w' b 0 (stR s.toList r) ∧ Turn b w w' := by
  have HV : Hid (stV s.toList r h0 = r.a &&& r.x &&& h0) := by show _ = _; rw [hs]; rfl
  have HR : Hid (stR s.toList r = { r with s := r.a &&& r.x }) := by show _ = _; rw [hs]; rfl
  have H : Hid (RAt w b 0 ⟨r.a, r.x, r.y, r.s, r.p, r.pc⟩) := h
  obtain ⟨ha, hx, hy, hs2, hp, hpc⟩ := hr
  obtain ⟨h0', h1, h2, h3, h4, h5, hf⟩ := h
  simp only [Nat.zero_add] at h1 h2 h3 h4 h5
  have f1 : bits .and .u8 (r.a : Int) (r.x : Int) = ((r.a &&& r.x : Nat) : Int) := u8_and_nat _ _ ha hx
  have f2 : bits .and .u8 ((r.a &&& r.x : Nat) : Int) (h0 : Int) = ((r.a &&& r.x &&& h0 : Nat) : Int) := u8_and_nat _ _ (and8 hx) hh
  have f3 : bits .and .u8 (r.x : Int) (h0 : Int) = ((r.x &&& h0 : Nat) : Int) := u8_and_nat _ _ hx hh
  have f4 : bits .and .u8 (r.y : Int) (h0 : Int) = ((r.y &&& h0 : Nat) : Int) := u8_and_nat _ _ hy hh
  go_enter Tryd.func46, Tryd.ntmps46
  repeat (first | with_reducible refine then_exit ?_ | with_reducible refine inB_ne rfl ?_ | with_reducible refine inB_eq ?_ | with_reducible refine then_normal ?_ | with_reducible refine inB_normal ?_ | with_reducible refine then_ret ?_ | with_reducible refine inB_ret ?_ | go_step)
  all_goals go_region
  all_goals repeat (first | with_reducible refine then_exit ?_ | with_reducible refine inB_ne rfl ?_ | with_reducible refine inB_eq ?_ | with_reducible refine then_normal ?_ | with_reducible refine inB_normal ?_ | with_reducible refine then_ret ?_ | with_reducible refine inB_ret ?_ | go_step)
  all_goals go_region
  all_goals repeat (first | with_reducible refine then_exit ?_ | with_reducible refine inB_ne rfl ?_ | with_reducible refine inB_eq ?_ | with_reducible refine then_normal ?_ | with_reducible refine inB_normal ?_ | with_reducible refine then_ret ?_ | with_reducible refine inB_ret ?_ | go_step)
  all_goals go_returns
  all_goals exact ⟨by rw [HV.out]; rfl, by rw [HR.out]; exact (H.out.put3 _).draws 2, ((Turn.refl b _).set _ _).draws 2⟩

set_option maxRecDepth 100000 in
set_option maxHeartbeats 2000000 in
theorem store_SHA (b h0 : Nat) (s : ByteArray) (r : Rg) (w : World) (hs : s.toList = [83, 72, 65]) (h : RAt w b 0 r) (hr : r.ok) (hh : h0 < 256) : Calls Tryd.prog 46 #[.pointer (some ⟨b, 0, none⟩), .string s, .int .u8 (h0 : Int)] w fun e w' => e = .returned (.int .u8 ((stV s.toList r h0 : Nat) : Int)) ∧ RAt w' b 0 (stR s.toList r) ∧ Turn b w w' := by
  have HV : Hid (stV s.toList r h0 = r.a &&& r.x &&& h0) := by show _ = _; rw [hs]; rfl
  have HR : Hid (stR s.toList r = r) := by show _ = _; rw [hs]; rfl
  have H : Hid (RAt w b 0 ⟨r.a, r.x, r.y, r.s, r.p, r.pc⟩) := h
  obtain ⟨ha, hx, hy, hs2, hp, hpc⟩ := hr
  obtain ⟨h0', h1, h2, h3, h4, h5, hf⟩ := h
  simp only [Nat.zero_add] at h1 h2 h3 h4 h5
  have f1 : bits .and .u8 (r.a : Int) (r.x : Int) = ((r.a &&& r.x : Nat) : Int) := u8_and_nat _ _ ha hx
  have f2 : bits .and .u8 ((r.a &&& r.x : Nat) : Int) (h0 : Int) = ((r.a &&& r.x &&& h0 : Nat) : Int) := u8_and_nat _ _ (and8 hx) hh
  have f3 : bits .and .u8 (r.x : Int) (h0 : Int) = ((r.x &&& h0 : Nat) : Int) := u8_and_nat _ _ hx hh
  have f4 : bits .and .u8 (r.y : Int) (h0 : Int) = ((r.y &&& h0 : Nat) : Int) := u8_and_nat _ _ hy hh
  go_enter Tryd.func46, Tryd.ntmps46
  repeat (first | with_reducible refine then_exit ?_ | with_reducible refine inB_ne rfl ?_ | with_reducible refine inB_eq ?_ | with_reducible refine then_normal ?_ | with_reducible refine inB_normal ?_ | with_reducible refine then_ret ?_ | with_reducible refine inB_ret ?_ | go_step)
  all_goals go_region
  all_goals repeat (first | with_reducible refine then_exit ?_ | with_reducible refine inB_ne rfl ?_ | with_reducible refine inB_eq ?_ | with_reducible refine then_normal ?_ | with_reducible refine inB_normal ?_ | with_reducible refine then_ret ?_ | with_reducible refine inB_ret ?_ | go_step)
  
  
  all_goals go_returns
  all_goals exact ⟨by rw [HV.out]; rfl, by rw [HR.out]; first | exact H.out | exact H.out.draws _, by first | exact Turn.refl b _ | exact (Turn.refl b _).draws _⟩

set_option maxRecDepth 100000 in
set_option maxHeartbeats 2000000 in
theorem store_SHX (b h0 : Nat) (s : ByteArray) (r : Rg) (w : World) (hs : s.toList = [83, 72, 88]) (h : RAt w b 0 r) (hr : r.ok) (hh : h0 < 256) : Calls Tryd.prog 46 #[.pointer (some ⟨b, 0, none⟩), .string s, .int .u8 (h0 : Int)] w fun e w' => e = .returned (.int .u8 ((stV s.toList r h0 : Nat) : Int)) ∧ RAt w' b 0 (stR s.toList r) ∧ Turn b w w' := by
  have HV : Hid (stV s.toList r h0 = r.x &&& h0) := by show _ = _; rw [hs]; rfl
  have HR : Hid (stR s.toList r = r) := by show _ = _; rw [hs]; rfl
  have H : Hid (RAt w b 0 ⟨r.a, r.x, r.y, r.s, r.p, r.pc⟩) := h
  obtain ⟨ha, hx, hy, hs2, hp, hpc⟩ := hr
  obtain ⟨h0', h1, h2, h3, h4, h5, hf⟩ := h
  simp only [Nat.zero_add] at h1 h2 h3 h4 h5
  have f1 : bits .and .u8 (r.a : Int) (r.x : Int) = ((r.a &&& r.x : Nat) : Int) := u8_and_nat _ _ ha hx
  have f2 : bits .and .u8 ((r.a &&& r.x : Nat) : Int) (h0 : Int) = ((r.a &&& r.x &&& h0 : Nat) : Int) := u8_and_nat _ _ (and8 hx) hh
  have f3 : bits .and .u8 (r.x : Int) (h0 : Int) = ((r.x &&& h0 : Nat) : Int) := u8_and_nat _ _ hx hh
  have f4 : bits .and .u8 (r.y : Int) (h0 : Int) = ((r.y &&& h0 : Nat) : Int) := u8_and_nat _ _ hy hh
  go_enter Tryd.func46, Tryd.ntmps46
  repeat (first | with_reducible refine then_exit ?_ | with_reducible refine inB_ne rfl ?_ | with_reducible refine inB_eq ?_ | with_reducible refine then_normal ?_ | with_reducible refine inB_normal ?_ | with_reducible refine then_ret ?_ | with_reducible refine inB_ret ?_ | go_step)
  
  all_goals repeat (first | with_reducible refine then_exit ?_ | with_reducible refine inB_ne rfl ?_ | with_reducible refine inB_eq ?_ | with_reducible refine then_normal ?_ | with_reducible refine inB_normal ?_ | with_reducible refine then_ret ?_ | with_reducible refine inB_ret ?_ | go_step)
  
  
  all_goals go_returns
  all_goals exact ⟨by rw [HV.out]; rfl, by rw [HR.out]; first | exact H.out | exact H.out.draws _, by first | exact Turn.refl b _ | exact (Turn.refl b _).draws _⟩

set_option maxRecDepth 100000 in
set_option maxHeartbeats 2000000 in
theorem store_SHY (b h0 : Nat) (s : ByteArray) (r : Rg) (w : World) (hs : s.toList = [83, 72, 89]) (h : RAt w b 0 r) (hr : r.ok) (hh : h0 < 256) : Calls Tryd.prog 46 #[.pointer (some ⟨b, 0, none⟩), .string s, .int .u8 (h0 : Int)] w fun e w' => e = .returned (.int .u8 ((stV s.toList r h0 : Nat) : Int)) ∧ RAt w' b 0 (stR s.toList r) ∧ Turn b w w' := by
  have HV : Hid (stV s.toList r h0 = r.y &&& h0) := by show _ = _; rw [hs]; rfl
  have HR : Hid (stR s.toList r = r) := by show _ = _; rw [hs]; rfl
  have H : Hid (RAt w b 0 ⟨r.a, r.x, r.y, r.s, r.p, r.pc⟩) := h
  obtain ⟨ha, hx, hy, hs2, hp, hpc⟩ := hr
  obtain ⟨h0', h1, h2, h3, h4, h5, hf⟩ := h
  simp only [Nat.zero_add] at h1 h2 h3 h4 h5
  have f1 : bits .and .u8 (r.a : Int) (r.x : Int) = ((r.a &&& r.x : Nat) : Int) := u8_and_nat _ _ ha hx
  have f2 : bits .and .u8 ((r.a &&& r.x : Nat) : Int) (h0 : Int) = ((r.a &&& r.x &&& h0 : Nat) : Int) := u8_and_nat _ _ (and8 hx) hh
  have f3 : bits .and .u8 (r.x : Int) (h0 : Int) = ((r.x &&& h0 : Nat) : Int) := u8_and_nat _ _ hx hh
  have f4 : bits .and .u8 (r.y : Int) (h0 : Int) = ((r.y &&& h0 : Nat) : Int) := u8_and_nat _ _ hy hh
  go_enter Tryd.func46, Tryd.ntmps46
  repeat (first | with_reducible refine then_exit ?_ | with_reducible refine inB_ne rfl ?_ | with_reducible refine inB_eq ?_ | with_reducible refine then_normal ?_ | with_reducible refine inB_normal ?_ | with_reducible refine then_ret ?_ | with_reducible refine inB_ret ?_ | go_step)
  
  all_goals repeat (first | with_reducible refine then_exit ?_ | with_reducible refine inB_ne rfl ?_ | with_reducible refine inB_eq ?_ | with_reducible refine then_normal ?_ | with_reducible refine inB_normal ?_ | with_reducible refine then_ret ?_ | with_reducible refine inB_ret ?_ | go_step)
  
  
  all_goals go_returns
  all_goals exact ⟨by rw [HV.out]; rfl, by rw [HR.out]; first | exact H.out | exact H.out.draws _, by first | exact Turn.refl b _ | exact (Turn.refl b _).draws _⟩

set_option maxRecDepth 100000 in
set_option maxHeartbeats 1000000 in
theorem store_none (b h0 : Nat) (s : ByteArray) (r : Rg) (w : World) (q0 : (s.toList == [83, 84, 65]) = false) (q1 : (s.toList == [83, 84, 88]) = false) (q2 : (s.toList == [83, 84, 89]) = false) (q3 : (s.toList == [83, 65, 88]) = false) (q4 : (s.toList == [84, 65, 83]) = false) (q5 : (s.toList == [83, 72, 65]) = false) (q6 : (s.toList == [83, 72, 88]) = false) (q7 : (s.toList == [83, 72, 89]) = false) (h : RAt w b 0 r) : Calls Tryd.prog 46 #[.pointer (some ⟨b, 0, none⟩), .string s, .int .u8 (h0 : Int)] w fun e w' => e = .returned (.int .u8 ((stV s.toList r h0 : Nat) : Int)) ∧ RAt w' b 0 (stR s.toList r) ∧ Turn b w w' := by
  have HV : Hid (stV s.toList r h0 = 0) := by
    show _ = _
    unfold stV
    rw [if_neg (fun e => by rw [e] at q0; revert q0; decide), if_neg (fun e => by rw [e] at q1; revert q1; decide), if_neg (fun e => by rw [e] at q2; revert q2; decide), if_neg (fun e => by rw [e] at q3; revert q3; decide), if_neg (fun e => by rw [e] at q4; revert q4; decide), if_neg (fun e => by rw [e] at q5; revert q5; decide), if_neg (fun e => by rw [e] at q6; revert q6; decide), if_neg (fun e => by rw [e] at q7; revert q7; decide)]
  have HR : Hid (stR s.toList r = r) := by
    show _ = _
    unfold stR
    rw [if_neg (fun e => by rw [e] at q4; revert q4; decide)]
  have H : Hid (RAt w b 0 r) := h
  clear h
  go_enter Tryd.func46, Tryd.ntmps46
  go_wp2
  go_returns
  exact ⟨by rw [HV.out]; rfl, by rw [HR.out]; exact H.out, Turn.refl b _⟩

theorem store (b h0 : Nat) (s : ByteArray) (r : Rg) (w : World) (h : RAt w b 0 r) (hr : r.ok) (hh : h0 < 256) : Calls Tryd.prog 46 #[.pointer (some ⟨b, 0, none⟩), .string s, .int .u8 (h0 : Int)] w fun e w' => e = .returned (.int .u8 ((stV s.toList r h0 : Nat) : Int)) ∧ RAt w' b 0 (stR s.toList r) ∧ Turn b w w' := by
  cases q0 : (s.toList == [83, 84, 65])
  rotate_left
  · exact store_STA b h0 s r w (eq_of_beq q0) h hr hh
  cases q1 : (s.toList == [83, 84, 88])
  rotate_left
  · exact store_STX b h0 s r w (eq_of_beq q1) h hr hh
  cases q2 : (s.toList == [83, 84, 89])
  rotate_left
  · exact store_STY b h0 s r w (eq_of_beq q2) h hr hh
  cases q3 : (s.toList == [83, 65, 88])
  rotate_left
  · exact store_SAX b h0 s r w (eq_of_beq q3) h hr hh
  cases q4 : (s.toList == [84, 65, 83])
  rotate_left
  · exact store_TAS b h0 s r w (eq_of_beq q4) h hr hh
  cases q5 : (s.toList == [83, 72, 65])
  rotate_left
  · exact store_SHA b h0 s r w (eq_of_beq q5) h hr hh
  cases q6 : (s.toList == [83, 72, 88])
  rotate_left
  · exact store_SHX b h0 s r w (eq_of_beq q6) h hr hh
  cases q7 : (s.toList == [83, 72, 89])
  rotate_left
  · exact store_SHY b h0 s r w (eq_of_beq q7) h hr hh
  exact store_none b h0 s r w q0 q1 q2 q3 q4 q5 q6 q7 h

end Go.Proofs.YtelmohajdmcnmaaDoor.Ex
