/- What a byte becomes, whatever the name. -/
import Derived.Test.YtelmohajdmcnmaaDoorEx3
import Derived.Test.YtelmohajdmcnmaaDoorEx6A
import Derived.Test.YtelmohajdmcnmaaDoorEx6B
import Derived.Test.YtelmohajdmcnmaaDoorExO
namespace Go.Proofs.YtelmohajdmcnmaaDoor.Ex
open Go.RowKit Alu
set_option linter.unusedVariables false

set_option maxRecDepth 100000 in
set_option maxHeartbeats 1000000 in
theorem turnAndRead (b m : Nat) (s t : ByteArray) (r : Rg) (w : World) (h : RAt w b 0 r) (hr : r.ok) (hm : m < 256)
    (hT : ∀ w, RAt w b 0 r → Calls Tryd.prog 47 #[.pointer (some ⟨b, 0, none⟩), .string s, .int .u8 (m : Int)] w fun e w' => e = .returned (.int .u8 ((tbV s.toList r m : Nat) : Int)) ∧ RAt w' b 0 (tbR s.toList r m) ∧ Turn b w w') :
    Calls Tryd.prog 81 #[.pointer (some ⟨b, 0, none⟩), .string s, .string t, .int .u8 (m : Int)] w fun e w' => e = .returned (.int .u8 ((tbV s.toList r m : Nat) : Int)) ∧ RAt w' b 0 (rd t.toList (tbR s.toList r m) (tbV s.toList r m)) ∧ Turn b w w' := by
  have H : Hid (RAt w b 0 r) := h
  have HT : Hid (∀ w, RAt w b 0 r → Calls Tryd.prog 47 #[.pointer (some ⟨b, 0, none⟩), .string s, .int .u8 (m : Int)] w fun e w' => e = .returned (.int .u8 ((tbV s.toList r m : Nat) : Int)) ∧ RAt w' b 0 (tbR s.toList r m) ∧ Turn b w w') := hT
  have ho := tbR_ok s.toList r m hr
  have hl := tbV_lt s.toList r m hm
  clear h hT hr
  go_enter Tryd.func81, Tryd.ntmps81
  repeat (first | (go_at_call 47; refine (HT.out _ H.out).mono ?_; rintro e w1 ⟨rfl, hR1, hT1⟩; dsimp only) | (go_at_call 45; refine (read b _ t _ _ hR1 ho hl).mono ?_; rintro e w2 ⟨rfl, hR2, hT2⟩; dsimp only) | with_reducible refine then_exit ?_ | with_reducible refine inB_ne rfl ?_ | with_reducible refine inB_eq ?_ | with_reducible refine then_normal ?_ | with_reducible refine inB_normal ?_ | with_reducible refine then_ret ?_ | with_reducible refine inB_ret ?_ | go_step)
  go_returns
  exact ⟨rfl, hR2, hT1.trans hT2⟩

set_option maxRecDepth 100000 in
set_option maxHeartbeats 1000000 in
theorem turn_SLO (b m : Nat) (s : ByteArray) (r : Rg) (w : World) (hs : s.toList = [83, 76, 79]) (h : RAt w b 0 r) (hr : r.ok) (hm : m < 256) : Calls Tryd.prog 47 #[.pointer (some ⟨b, 0, none⟩), .string s, .int .u8 (m : Int)] w fun e w' => e = .returned (.int .u8 ((tuV s.toList r m : Nat) : Int)) ∧ RAt w' b 0 (tuR s.toList r m) ∧ Turn b w w' := by
  have HV : Hid (tuV s.toList r m = tbV [65, 83, 76] r m) := by show _ = _; rw [hs]; rfl
  have HR : Hid (tuR s.toList r m = rd [79, 82, 65] (tbR [65, 83, 76] r m) (tbV [65, 83, 76] r m)) := by show _ = _; rw [hs]; rfl
  have HA : Hid (∀ X, RAt (w.alloc X) b 0 r) := fun X => h.alloc X
  have HC : Hid (∀ w, RAt w b 0 r → Calls Tryd.prog 81 #[.pointer (some ⟨b, 0, none⟩), .string ⟨#[65, 83, 76]⟩, .string ⟨#[79, 82, 65]⟩, .int .u8 (m : Int)] w fun e w' => e = .returned (.int .u8 ((tbV [65, 83, 76] r m : Nat) : Int)) ∧ RAt w' b 0 (rd [79, 82, 65] (tbR [65, 83, 76] r m) (tbV [65, 83, 76] r m)) ∧ Turn b w w') := fun w h => by
    have hc := turnAndRead b m ⟨#[65, 83, 76]⟩ ⟨#[79, 82, 65]⟩ r w h hr hm (fun w h => by
      have := turn_ASL b m ⟨#[65, 83, 76]⟩ r w (by rw [ByteArray.toList_eq]) h hr hm
      rw [ByteArray.toList_eq] at this ⊢
      exact this)
    simp only [ByteArray.toList_eq] at hc
    exact hc
  have hlt : Hid (b < w.heap.size) := h.lt
  have hl := tbV_lt [65, 83, 76] r m hm
  have HB : Hid (∀ (w1 w2 : World) (v u : Value) t, Turn b (w1.alloc (.cells #[u] t)) w2 → b < w1.heap.size → (w2.cell? ⟨w1.heap.size, 0, none⟩ = some u) ∧ w2.frozen? ⟨w1.heap.size, 0, none⟩ = false) := fun w1 w2 v u t hT hb => by
    obtain ⟨c1, c2⟩ := new_cell w1 u t
    have hk := hT.block w1.heap.size (by simp) (by omega)
    exact ⟨(World.cell?_of_block hk).trans c1, (World.frozen?_of_block hk).trans c2⟩
  clear h hr
  go_enter Tryd.func47, Tryd.ntmps47
  repeat (first | (go_at_call 81; refine (HC.out _ (HA.out _)).mono ?_; rintro e w1 ⟨rfl, hR1, hT1⟩; obtain ⟨k1, k2⟩ := HB.out _ _ (.int .u8 0) _ _ hT1 hlt.out; dsimp only) | with_reducible refine then_exit ?_ | with_reducible refine inB_ne rfl ?_ | with_reducible refine inB_eq ?_ | with_reducible refine then_normal ?_ | with_reducible refine inB_normal ?_ | with_reducible refine then_ret ?_ | with_reducible refine inB_ret ?_ | go_step)
  go_returns
  refine ⟨by rw [HV.out]; rfl, by rw [HR.out]; exact hR1.kept (Below.heap_setCell _ _ _ _ (show b ≠ w.heap.size by have := hlt.out; omega)), ?_⟩
  refine ⟨hT1.os, hT1.tape, hT1.output, ?_, fun k h1 h2 => ?_⟩
  · have := hT1.size
    simp [World.setCell] at this ⊢
    omega
  · exact (Below.heap_setCell _ _ _ _ (show k ≠ w.heap.size by omega)).trans ((hT1.block k (by simp; omega) h2).trans (((Below.refl _ _).alloc (Nat.le_refl _) _).block k h1))

set_option maxRecDepth 100000 in
set_option maxHeartbeats 1000000 in
theorem turn_RLA (b m : Nat) (s : ByteArray) (r : Rg) (w : World) (hs : s.toList = [82, 76, 65]) (h : RAt w b 0 r) (hr : r.ok) (hm : m < 256) : Calls Tryd.prog 47 #[.pointer (some ⟨b, 0, none⟩), .string s, .int .u8 (m : Int)] w fun e w' => e = .returned (.int .u8 ((tuV s.toList r m : Nat) : Int)) ∧ RAt w' b 0 (tuR s.toList r m) ∧ Turn b w w' := by
  have HV : Hid (tuV s.toList r m = tbV [82, 79, 76] r m) := by show _ = _; rw [hs]; rfl
  have HR : Hid (tuR s.toList r m = rd [65, 78, 68] (tbR [82, 79, 76] r m) (tbV [82, 79, 76] r m)) := by show _ = _; rw [hs]; rfl
  have HA : Hid (∀ X, RAt (w.alloc X) b 0 r) := fun X => h.alloc X
  have HC : Hid (∀ w, RAt w b 0 r → Calls Tryd.prog 81 #[.pointer (some ⟨b, 0, none⟩), .string ⟨#[82, 79, 76]⟩, .string ⟨#[65, 78, 68]⟩, .int .u8 (m : Int)] w fun e w' => e = .returned (.int .u8 ((tbV [82, 79, 76] r m : Nat) : Int)) ∧ RAt w' b 0 (rd [65, 78, 68] (tbR [82, 79, 76] r m) (tbV [82, 79, 76] r m)) ∧ Turn b w w') := fun w h => by
    have hc := turnAndRead b m ⟨#[82, 79, 76]⟩ ⟨#[65, 78, 68]⟩ r w h hr hm (fun w h => by
      have := turn_ROL b m ⟨#[82, 79, 76]⟩ r w (by rw [ByteArray.toList_eq]) h hr hm
      rw [ByteArray.toList_eq] at this ⊢
      exact this)
    simp only [ByteArray.toList_eq] at hc
    exact hc
  have hlt : Hid (b < w.heap.size) := h.lt
  have hl := tbV_lt [82, 79, 76] r m hm
  have HB : Hid (∀ (w1 w2 : World) (v u : Value) t, Turn b (w1.alloc (.cells #[u] t)) w2 → b < w1.heap.size → (w2.cell? ⟨w1.heap.size, 0, none⟩ = some u) ∧ w2.frozen? ⟨w1.heap.size, 0, none⟩ = false) := fun w1 w2 v u t hT hb => by
    obtain ⟨c1, c2⟩ := new_cell w1 u t
    have hk := hT.block w1.heap.size (by simp) (by omega)
    exact ⟨(World.cell?_of_block hk).trans c1, (World.frozen?_of_block hk).trans c2⟩
  clear h hr
  go_enter Tryd.func47, Tryd.ntmps47
  repeat (first | (go_at_call 81; refine (HC.out _ (HA.out _)).mono ?_; rintro e w1 ⟨rfl, hR1, hT1⟩; obtain ⟨k1, k2⟩ := HB.out _ _ (.int .u8 0) _ _ hT1 hlt.out; dsimp only) | with_reducible refine then_exit ?_ | with_reducible refine inB_ne rfl ?_ | with_reducible refine inB_eq ?_ | with_reducible refine then_normal ?_ | with_reducible refine inB_normal ?_ | with_reducible refine then_ret ?_ | with_reducible refine inB_ret ?_ | go_step)
  go_returns
  refine ⟨by rw [HV.out]; rfl, by rw [HR.out]; exact hR1.kept (Below.heap_setCell _ _ _ _ (show b ≠ w.heap.size by have := hlt.out; omega)), ?_⟩
  refine ⟨hT1.os, hT1.tape, hT1.output, ?_, fun k h1 h2 => ?_⟩
  · have := hT1.size
    simp [World.setCell] at this ⊢
    omega
  · exact (Below.heap_setCell _ _ _ _ (show k ≠ w.heap.size by omega)).trans ((hT1.block k (by simp; omega) h2).trans (((Below.refl _ _).alloc (Nat.le_refl _) _).block k h1))

set_option maxRecDepth 100000 in
set_option maxHeartbeats 1000000 in
theorem turn_SRE (b m : Nat) (s : ByteArray) (r : Rg) (w : World) (hs : s.toList = [83, 82, 69]) (h : RAt w b 0 r) (hr : r.ok) (hm : m < 256) : Calls Tryd.prog 47 #[.pointer (some ⟨b, 0, none⟩), .string s, .int .u8 (m : Int)] w fun e w' => e = .returned (.int .u8 ((tuV s.toList r m : Nat) : Int)) ∧ RAt w' b 0 (tuR s.toList r m) ∧ Turn b w w' := by
  have HV : Hid (tuV s.toList r m = tbV [76, 83, 82] r m) := by show _ = _; rw [hs]; rfl
  have HR : Hid (tuR s.toList r m = rd [69, 79, 82] (tbR [76, 83, 82] r m) (tbV [76, 83, 82] r m)) := by show _ = _; rw [hs]; rfl
  have HA : Hid (∀ X, RAt (w.alloc X) b 0 r) := fun X => h.alloc X
  have HC : Hid (∀ w, RAt w b 0 r → Calls Tryd.prog 81 #[.pointer (some ⟨b, 0, none⟩), .string ⟨#[76, 83, 82]⟩, .string ⟨#[69, 79, 82]⟩, .int .u8 (m : Int)] w fun e w' => e = .returned (.int .u8 ((tbV [76, 83, 82] r m : Nat) : Int)) ∧ RAt w' b 0 (rd [69, 79, 82] (tbR [76, 83, 82] r m) (tbV [76, 83, 82] r m)) ∧ Turn b w w') := fun w h => by
    have hc := turnAndRead b m ⟨#[76, 83, 82]⟩ ⟨#[69, 79, 82]⟩ r w h hr hm (fun w h => by
      have := turn_LSR b m ⟨#[76, 83, 82]⟩ r w (by rw [ByteArray.toList_eq]) h hr hm
      rw [ByteArray.toList_eq] at this ⊢
      exact this)
    simp only [ByteArray.toList_eq] at hc
    exact hc
  have hlt : Hid (b < w.heap.size) := h.lt
  have hl := tbV_lt [76, 83, 82] r m hm
  have HB : Hid (∀ (w1 w2 : World) (v u : Value) t, Turn b (w1.alloc (.cells #[u] t)) w2 → b < w1.heap.size → (w2.cell? ⟨w1.heap.size, 0, none⟩ = some u) ∧ w2.frozen? ⟨w1.heap.size, 0, none⟩ = false) := fun w1 w2 v u t hT hb => by
    obtain ⟨c1, c2⟩ := new_cell w1 u t
    have hk := hT.block w1.heap.size (by simp) (by omega)
    exact ⟨(World.cell?_of_block hk).trans c1, (World.frozen?_of_block hk).trans c2⟩
  clear h hr
  go_enter Tryd.func47, Tryd.ntmps47
  repeat (first | (go_at_call 81; refine (HC.out _ (HA.out _)).mono ?_; rintro e w1 ⟨rfl, hR1, hT1⟩; obtain ⟨k1, k2⟩ := HB.out _ _ (.int .u8 0) _ _ hT1 hlt.out; dsimp only) | with_reducible refine then_exit ?_ | with_reducible refine inB_ne rfl ?_ | with_reducible refine inB_eq ?_ | with_reducible refine then_normal ?_ | with_reducible refine inB_normal ?_ | with_reducible refine then_ret ?_ | with_reducible refine inB_ret ?_ | go_step)
  go_returns
  refine ⟨by rw [HV.out]; rfl, by rw [HR.out]; exact hR1.kept (Below.heap_setCell _ _ _ _ (show b ≠ w.heap.size by have := hlt.out; omega)), ?_⟩
  refine ⟨hT1.os, hT1.tape, hT1.output, ?_, fun k h1 h2 => ?_⟩
  · have := hT1.size
    simp [World.setCell] at this ⊢
    omega
  · exact (Below.heap_setCell _ _ _ _ (show k ≠ w.heap.size by omega)).trans ((hT1.block k (by simp; omega) h2).trans (((Below.refl _ _).alloc (Nat.le_refl _) _).block k h1))

set_option maxRecDepth 100000 in
set_option maxHeartbeats 1000000 in
theorem turn_RRA (b m : Nat) (s : ByteArray) (r : Rg) (w : World) (hs : s.toList = [82, 82, 65]) (h : RAt w b 0 r) (hr : r.ok) (hm : m < 256) : Calls Tryd.prog 47 #[.pointer (some ⟨b, 0, none⟩), .string s, .int .u8 (m : Int)] w fun e w' => e = .returned (.int .u8 ((tuV s.toList r m : Nat) : Int)) ∧ RAt w' b 0 (tuR s.toList r m) ∧ Turn b w w' := by
  have HV : Hid (tuV s.toList r m = tbV [82, 79, 82] r m) := by show _ = _; rw [hs]; rfl
  have HR : Hid (tuR s.toList r m = rd [65, 68, 67] (tbR [82, 79, 82] r m) (tbV [82, 79, 82] r m)) := by show _ = _; rw [hs]; rfl
  have HA : Hid (∀ X, RAt (w.alloc X) b 0 r) := fun X => h.alloc X
  have HC : Hid (∀ w, RAt w b 0 r → Calls Tryd.prog 81 #[.pointer (some ⟨b, 0, none⟩), .string ⟨#[82, 79, 82]⟩, .string ⟨#[65, 68, 67]⟩, .int .u8 (m : Int)] w fun e w' => e = .returned (.int .u8 ((tbV [82, 79, 82] r m : Nat) : Int)) ∧ RAt w' b 0 (rd [65, 68, 67] (tbR [82, 79, 82] r m) (tbV [82, 79, 82] r m)) ∧ Turn b w w') := fun w h => by
    have hc := turnAndRead b m ⟨#[82, 79, 82]⟩ ⟨#[65, 68, 67]⟩ r w h hr hm (fun w h => by
      have := turn_ROR b m ⟨#[82, 79, 82]⟩ r w (by rw [ByteArray.toList_eq]) h hr hm
      rw [ByteArray.toList_eq] at this ⊢
      exact this)
    simp only [ByteArray.toList_eq] at hc
    exact hc
  have hlt : Hid (b < w.heap.size) := h.lt
  have hl := tbV_lt [82, 79, 82] r m hm
  have HB : Hid (∀ (w1 w2 : World) (v u : Value) t, Turn b (w1.alloc (.cells #[u] t)) w2 → b < w1.heap.size → (w2.cell? ⟨w1.heap.size, 0, none⟩ = some u) ∧ w2.frozen? ⟨w1.heap.size, 0, none⟩ = false) := fun w1 w2 v u t hT hb => by
    obtain ⟨c1, c2⟩ := new_cell w1 u t
    have hk := hT.block w1.heap.size (by simp) (by omega)
    exact ⟨(World.cell?_of_block hk).trans c1, (World.frozen?_of_block hk).trans c2⟩
  clear h hr
  go_enter Tryd.func47, Tryd.ntmps47
  repeat (first | (go_at_call 81; refine (HC.out _ (HA.out _)).mono ?_; rintro e w1 ⟨rfl, hR1, hT1⟩; obtain ⟨k1, k2⟩ := HB.out _ _ (.int .u8 0) _ _ hT1 hlt.out; dsimp only) | with_reducible refine then_exit ?_ | with_reducible refine inB_ne rfl ?_ | with_reducible refine inB_eq ?_ | with_reducible refine then_normal ?_ | with_reducible refine inB_normal ?_ | with_reducible refine then_ret ?_ | with_reducible refine inB_ret ?_ | go_step)
  go_returns
  refine ⟨by rw [HV.out]; rfl, by rw [HR.out]; exact hR1.kept (Below.heap_setCell _ _ _ _ (show b ≠ w.heap.size by have := hlt.out; omega)), ?_⟩
  refine ⟨hT1.os, hT1.tape, hT1.output, ?_, fun k h1 h2 => ?_⟩
  · have := hT1.size
    simp [World.setCell] at this ⊢
    omega
  · exact (Below.heap_setCell _ _ _ _ (show k ≠ w.heap.size by omega)).trans ((hT1.block k (by simp; omega) h2).trans (((Below.refl _ _).alloc (Nat.le_refl _) _).block k h1))

set_option maxRecDepth 100000 in
set_option maxHeartbeats 1000000 in
theorem turn_DCP (b m : Nat) (s : ByteArray) (r : Rg) (w : World) (hs : s.toList = [68, 67, 80]) (h : RAt w b 0 r) (hr : r.ok) (hm : m < 256) : Calls Tryd.prog 47 #[.pointer (some ⟨b, 0, none⟩), .string s, .int .u8 (m : Int)] w fun e w' => e = .returned (.int .u8 ((tuV s.toList r m : Nat) : Int)) ∧ RAt w' b 0 (tuR s.toList r m) ∧ Turn b w w' := by
  have HV : Hid (tuV s.toList r m = tbV [68, 69, 67] r m) := by show _ = _; rw [hs]; rfl
  have HR : Hid (tuR s.toList r m = rd [67, 77, 80] (tbR [68, 69, 67] r m) (tbV [68, 69, 67] r m)) := by show _ = _; rw [hs]; rfl
  have HA : Hid (∀ X, RAt (w.alloc X) b 0 r) := fun X => h.alloc X
  have HC : Hid (∀ w, RAt w b 0 r → Calls Tryd.prog 81 #[.pointer (some ⟨b, 0, none⟩), .string ⟨#[68, 69, 67]⟩, .string ⟨#[67, 77, 80]⟩, .int .u8 (m : Int)] w fun e w' => e = .returned (.int .u8 ((tbV [68, 69, 67] r m : Nat) : Int)) ∧ RAt w' b 0 (rd [67, 77, 80] (tbR [68, 69, 67] r m) (tbV [68, 69, 67] r m)) ∧ Turn b w w') := fun w h => by
    have hc := turnAndRead b m ⟨#[68, 69, 67]⟩ ⟨#[67, 77, 80]⟩ r w h hr hm (fun w h => by
      have := turn_DEC b m ⟨#[68, 69, 67]⟩ r w (by rw [ByteArray.toList_eq]) h hr hm
      rw [ByteArray.toList_eq] at this ⊢
      exact this)
    simp only [ByteArray.toList_eq] at hc
    exact hc
  have hlt : Hid (b < w.heap.size) := h.lt
  have hl := tbV_lt [68, 69, 67] r m hm
  have HB : Hid (∀ (w1 w2 : World) (v u : Value) t, Turn b (w1.alloc (.cells #[u] t)) w2 → b < w1.heap.size → (w2.cell? ⟨w1.heap.size, 0, none⟩ = some u) ∧ w2.frozen? ⟨w1.heap.size, 0, none⟩ = false) := fun w1 w2 v u t hT hb => by
    obtain ⟨c1, c2⟩ := new_cell w1 u t
    have hk := hT.block w1.heap.size (by simp) (by omega)
    exact ⟨(World.cell?_of_block hk).trans c1, (World.frozen?_of_block hk).trans c2⟩
  clear h hr
  go_enter Tryd.func47, Tryd.ntmps47
  repeat (first | (go_at_call 81; refine (HC.out _ (HA.out _)).mono ?_; rintro e w1 ⟨rfl, hR1, hT1⟩; obtain ⟨k1, k2⟩ := HB.out _ _ (.int .u8 0) _ _ hT1 hlt.out; dsimp only) | with_reducible refine then_exit ?_ | with_reducible refine inB_ne rfl ?_ | with_reducible refine inB_eq ?_ | with_reducible refine then_normal ?_ | with_reducible refine inB_normal ?_ | with_reducible refine then_ret ?_ | with_reducible refine inB_ret ?_ | go_step)
  go_returns
  refine ⟨by rw [HV.out]; rfl, by rw [HR.out]; exact hR1.kept (Below.heap_setCell _ _ _ _ (show b ≠ w.heap.size by have := hlt.out; omega)), ?_⟩
  refine ⟨hT1.os, hT1.tape, hT1.output, ?_, fun k h1 h2 => ?_⟩
  · have := hT1.size
    simp [World.setCell] at this ⊢
    omega
  · exact (Below.heap_setCell _ _ _ _ (show k ≠ w.heap.size by omega)).trans ((hT1.block k (by simp; omega) h2).trans (((Below.refl _ _).alloc (Nat.le_refl _) _).block k h1))

set_option maxRecDepth 100000 in
set_option maxHeartbeats 1000000 in
theorem turn_ISC (b m : Nat) (s : ByteArray) (r : Rg) (w : World) (hs : s.toList = [73, 83, 67]) (h : RAt w b 0 r) (hr : r.ok) (hm : m < 256) : Calls Tryd.prog 47 #[.pointer (some ⟨b, 0, none⟩), .string s, .int .u8 (m : Int)] w fun e w' => e = .returned (.int .u8 ((tuV s.toList r m : Nat) : Int)) ∧ RAt w' b 0 (tuR s.toList r m) ∧ Turn b w w' := by
  have HV : Hid (tuV s.toList r m = tbV [73, 78, 67] r m) := by show _ = _; rw [hs]; rfl
  have HR : Hid (tuR s.toList r m = rd [83, 66, 67] (tbR [73, 78, 67] r m) (tbV [73, 78, 67] r m)) := by show _ = _; rw [hs]; rfl
  have HA : Hid (∀ X, RAt (w.alloc X) b 0 r) := fun X => h.alloc X
  have HC : Hid (∀ w, RAt w b 0 r → Calls Tryd.prog 81 #[.pointer (some ⟨b, 0, none⟩), .string ⟨#[73, 78, 67]⟩, .string ⟨#[83, 66, 67]⟩, .int .u8 (m : Int)] w fun e w' => e = .returned (.int .u8 ((tbV [73, 78, 67] r m : Nat) : Int)) ∧ RAt w' b 0 (rd [83, 66, 67] (tbR [73, 78, 67] r m) (tbV [73, 78, 67] r m)) ∧ Turn b w w') := fun w h => by
    have hc := turnAndRead b m ⟨#[73, 78, 67]⟩ ⟨#[83, 66, 67]⟩ r w h hr hm (fun w h => by
      have := turn_INC b m ⟨#[73, 78, 67]⟩ r w (by rw [ByteArray.toList_eq]) h hr hm
      rw [ByteArray.toList_eq] at this ⊢
      exact this)
    simp only [ByteArray.toList_eq] at hc
    exact hc
  have hlt : Hid (b < w.heap.size) := h.lt
  have hl := tbV_lt [73, 78, 67] r m hm
  have HB : Hid (∀ (w1 w2 : World) (v u : Value) t, Turn b (w1.alloc (.cells #[u] t)) w2 → b < w1.heap.size → (w2.cell? ⟨w1.heap.size, 0, none⟩ = some u) ∧ w2.frozen? ⟨w1.heap.size, 0, none⟩ = false) := fun w1 w2 v u t hT hb => by
    obtain ⟨c1, c2⟩ := new_cell w1 u t
    have hk := hT.block w1.heap.size (by simp) (by omega)
    exact ⟨(World.cell?_of_block hk).trans c1, (World.frozen?_of_block hk).trans c2⟩
  clear h hr
  go_enter Tryd.func47, Tryd.ntmps47
  repeat (first | (go_at_call 81; refine (HC.out _ (HA.out _)).mono ?_; rintro e w1 ⟨rfl, hR1, hT1⟩; obtain ⟨k1, k2⟩ := HB.out _ _ (.int .u8 0) _ _ hT1 hlt.out; dsimp only) | with_reducible refine then_exit ?_ | with_reducible refine inB_ne rfl ?_ | with_reducible refine inB_eq ?_ | with_reducible refine then_normal ?_ | with_reducible refine inB_normal ?_ | with_reducible refine then_ret ?_ | with_reducible refine inB_ret ?_ | go_step)
  go_returns
  refine ⟨by rw [HV.out]; rfl, by rw [HR.out]; exact hR1.kept (Below.heap_setCell _ _ _ _ (show b ≠ w.heap.size by have := hlt.out; omega)), ?_⟩
  refine ⟨hT1.os, hT1.tape, hT1.output, ?_, fun k h1 h2 => ?_⟩
  · have := hT1.size
    simp [World.setCell] at this ⊢
    omega
  · exact (Below.heap_setCell _ _ _ _ (show k ≠ w.heap.size by omega)).trans ((hT1.block k (by simp; omega) h2).trans (((Below.refl _ _).alloc (Nat.le_refl _) _).block k h1))

set_option maxRecDepth 100000 in
set_option maxHeartbeats 1000000 in
theorem turn_none (b m : Nat) (s : ByteArray) (r : Rg) (w : World) (q0 : (s.toList == [65, 83, 76]) = false) (q1 : (s.toList == [82, 79, 76]) = false) (q2 : (s.toList == [76, 83, 82]) = false) (q3 : (s.toList == [82, 79, 82]) = false) (q4 : (s.toList == [73, 78, 67]) = false) (q5 : (s.toList == [68, 69, 67]) = false) (q6 : (s.toList == [83, 76, 79]) = false) (q7 : (s.toList == [82, 76, 65]) = false) (q8 : (s.toList == [83, 82, 69]) = false) (q9 : (s.toList == [82, 82, 65]) = false) (q10 : (s.toList == [68, 67, 80]) = false) (q11 : (s.toList == [73, 83, 67]) = false) (h : RAt w b 0 r) : Calls Tryd.prog 47 #[.pointer (some ⟨b, 0, none⟩), .string s, .int .u8 (m : Int)] w fun e w' => e = .returned (.int .u8 ((tuV s.toList r m : Nat) : Int)) ∧ RAt w' b 0 (tuR s.toList r m) ∧ Turn b w w' := by
  have HV : Hid (tuV s.toList r m = m) := by
    show _ = _
    unfold tuV tbV
    rw [if_neg (fun e => by rw [e] at q6; revert q6; decide), if_neg (fun e => by rw [e] at q7; revert q7; decide), if_neg (fun e => by rw [e] at q8; revert q8; decide), if_neg (fun e => by rw [e] at q9; revert q9; decide), if_neg (fun e => by rw [e] at q10; revert q10; decide), if_neg (fun e => by rw [e] at q11; revert q11; decide), if_neg (fun e => by rw [e] at q0; revert q0; decide), if_neg (fun e => by rw [e] at q1; revert q1; decide), if_neg (fun e => by rw [e] at q2; revert q2; decide), if_neg (fun e => by rw [e] at q3; revert q3; decide), if_neg (fun e => by rw [e] at q4; revert q4; decide), if_neg (fun e => by rw [e] at q5; revert q5; decide)]
  have HR : Hid (tuR s.toList r m = r) := by
    show _ = _
    unfold tuR tbR
    rw [if_neg (fun e => by rw [e] at q6; revert q6; decide), if_neg (fun e => by rw [e] at q7; revert q7; decide), if_neg (fun e => by rw [e] at q8; revert q8; decide), if_neg (fun e => by rw [e] at q9; revert q9; decide), if_neg (fun e => by rw [e] at q10; revert q10; decide), if_neg (fun e => by rw [e] at q11; revert q11; decide), if_neg (fun e => by rw [e] at q0; revert q0; decide), if_neg (fun e => by rw [e] at q1; revert q1; decide), if_neg (fun e => by rw [e] at q2; revert q2; decide), if_neg (fun e => by rw [e] at q3; revert q3; decide), if_neg (fun e => by rw [e] at q4; revert q4; decide), if_neg (fun e => by rw [e] at q5; revert q5; decide)]
  have H : Hid (RAt w b 0 r) := h
  clear h
  go_enter Tryd.func47, Tryd.ntmps47
  repeat (first | with_reducible refine then_exit ?_ | with_reducible refine inB_ne rfl ?_ | with_reducible refine inB_eq ?_ | with_reducible refine then_normal ?_ | with_reducible refine inB_normal ?_ | with_reducible refine then_ret ?_ | with_reducible refine inB_ret ?_ | go_step)
  go_returns
  exact ⟨by rw [HV.out]; rfl, by rw [HR.out]; exact H.out.alloc _, Turn.of_below ((Below.refl _ _).alloc (Nat.le_refl _) _)⟩

theorem turn (b m : Nat) (s : ByteArray) (r : Rg) (w : World) (h : RAt w b 0 r) (hr : r.ok) (hm : m < 256) : Calls Tryd.prog 47 #[.pointer (some ⟨b, 0, none⟩), .string s, .int .u8 (m : Int)] w fun e w' => e = .returned (.int .u8 ((tuV s.toList r m : Nat) : Int)) ∧ RAt w' b 0 (tuR s.toList r m) ∧ Turn b w w' := by
  cases q0 : (s.toList == [65, 83, 76])
  rotate_left
  · exact turn_ASL b m s r w (eq_of_beq q0) h hr hm
  cases q1 : (s.toList == [82, 79, 76])
  rotate_left
  · exact turn_ROL b m s r w (eq_of_beq q1) h hr hm
  cases q2 : (s.toList == [76, 83, 82])
  rotate_left
  · exact turn_LSR b m s r w (eq_of_beq q2) h hr hm
  cases q3 : (s.toList == [82, 79, 82])
  rotate_left
  · exact turn_ROR b m s r w (eq_of_beq q3) h hr hm
  cases q4 : (s.toList == [73, 78, 67])
  rotate_left
  · exact turn_INC b m s r w (eq_of_beq q4) h hr hm
  cases q5 : (s.toList == [68, 69, 67])
  rotate_left
  · exact turn_DEC b m s r w (eq_of_beq q5) h hr hm
  cases q6 : (s.toList == [83, 76, 79])
  rotate_left
  · exact turn_SLO b m s r w (eq_of_beq q6) h hr hm
  cases q7 : (s.toList == [82, 76, 65])
  rotate_left
  · exact turn_RLA b m s r w (eq_of_beq q7) h hr hm
  cases q8 : (s.toList == [83, 82, 69])
  rotate_left
  · exact turn_SRE b m s r w (eq_of_beq q8) h hr hm
  cases q9 : (s.toList == [82, 82, 65])
  rotate_left
  · exact turn_RRA b m s r w (eq_of_beq q9) h hr hm
  cases q10 : (s.toList == [68, 67, 80])
  rotate_left
  · exact turn_DCP b m s r w (eq_of_beq q10) h hr hm
  cases q11 : (s.toList == [73, 83, 67])
  rotate_left
  · exact turn_ISC b m s r w (eq_of_beq q11) h hr hm
  exact turn_none b m s r w q0 q1 q2 q3 q4 q5 q6 q7 q8 q9 q10 q11 h

end Go.Proofs.YtelmohajdmcnmaaDoor.Ex
