/- What a motion's step does, way by way. -/
import Derived.Test.YtkondnlilkpdoaaMot4
set_option linter.unusedVariables false
namespace Go.Proofs.Ytkondnlilkpdoaa.Mo
open Go.RowKit

/-- Five numbers by their place. -/
def five (n0 n1 n2 n3 n4 : Nat) (k : Nat) : Nat := match k with | 0 => n0 | 1 => n1 | 2 => n2 | 3 => n3 | _ => n4
theorem five_lt {n0 n1 n2 n3 n4 : Nat} (h0 : n0 < 256) (h1 : n1 < 256) (h2 : n2 < 256) (h3 : n3 < 256) (h4 : n4 < 256) (k : Nat) : five n0 n1 n2 n3 n4 k < 256 := by
  unfold five; split <;> assumption

/-- The world behind a step's start: the box of the pointer, the nibbles, the answer. -/
def w3n (w : World) (b n0 n1 n2 n3 n4 : Nat) : World := ((w.alloc (.cells #[.pointer (some ⟨b, 0, none⟩)] 23)).alloc (.cells #[.int .u8 (n0 : Int), .int .u8 (n1 : Int), .int .u8 (n2 : Int), .int .u8 (n3 : Int), .int .u8 (n4 : Int)] 29)).alloc (.cells #[.bool false, .bool false, .bool false, .bool false, .bool false] 25)

theorem step_new {w : World} {b n0 n1 n2 n3 n4 : Nat} (hb : b < w.heap.size) (h0 : n0 < 256) (h1 : n1 < 256) (h2 : n2 < 256) (h3 : n3 < 256) (h4 : n4 < 256) :
    Kp (w3n w b n0 n1 n2 n3 n4) b (w.heap.size + 1) w.heap.size (five n0 n1 n2 n3 n4) ∧ BAt (w3n w b n0 n1 n2 n3 n4) (w.heap.size + 1 + 1) (fun _ => false) ∧ Below w.heap.size w (w3n w b n0 n1 n2 n3 n4) := by
  unfold w3n
  obtain ⟨wa, ha⟩ : ∃ wa, wa = w.alloc (.cells #[.pointer (some ⟨b, 0, none⟩)] 23) := ⟨_, rfl⟩
  have sa : wa.heap.size = w.heap.size + 1 := by rw [ha]; simp
  have ca := new_cell w (.pointer (some ⟨b, 0, none⟩)) 23
  have ba : Below w.heap.size w wa := by rw [ha]; exact (Below.refl _ w).alloc (Nat.le_refl _) _
  rw [← ha] at ca ⊢
  obtain ⟨wb, hwb⟩ : ∃ wb, wb = wa.alloc (.cells #[.int .u8 (n0 : Int), .int .u8 (n1 : Int), .int .u8 (n2 : Int), .int .u8 (n3 : Int), .int .u8 (n4 : Int)] 29) := ⟨_, rfl⟩
  have sb : wb.heap.size = w.heap.size + 1 + 1 := by rw [hwb]; simp [sa]
  have hh := heap_alloc_new wa (.cells #[.int .u8 (n0 : Int), .int .u8 (n1 : Int), .int .u8 (n2 : Int), .int .u8 (n3 : Int), .int .u8 (n4 : Int)] 29)
  have bb : Below wa.heap.size wa wb := by rw [hwb]; exact (Below.refl _ wa).alloc (Nat.le_refl _) _
  rw [← hwb] at hh ⊢
  rw [sa] at hh bb
  have hn := new_bools wb false false false false false
  have bc : Below wb.heap.size wb (wb.alloc (.cells #[.bool false, .bool false, .bool false, .bool false, .bool false] 25)) := (Below.refl _ wb).alloc (Nat.le_refl _) _
  rw [sb] at hn bc
  have k1 : NAt wb (w.heap.size + 1) (five n0 n1 n2 n3 n4) := ⟨fun k hk => by
    rcases (show k = 0 ∨ k = 1 ∨ k = 2 ∨ k = 3 ∨ k = 4 by omega) with rfl | rfl | rfl | rfl | rfl <;> exact cell_of_row _ _ _ _ _ _ hh, five_lt h0 h1 h2 h3 h4⟩
  have k2 : wb.cell? ⟨w.heap.size, 0, none⟩ = some (.pointer (some ⟨b, 0, none⟩)) := (World.cell?_of_block (w := wa) (bb.block w.heap.size (by omega))).trans ca.1
  exact ⟨(⟨k1, k2, by omega, by omega⟩ : Kp wb b (w.heap.size + 1) w.heap.size (five n0 n1 n2 n3 n4)).kept (bc.block _ (by omega)) (bc.block _ (by omega)), hn.to (fun j hj => by rcases (show j = 0 ∨ j = 1 ∨ j = 2 ∨ j = 3 ∨ j = 4 by omega) with rfl | rfl | rfl | rfl | rfl <;> rfl), (ba.trans (bb.mono (by omega))).trans (bc.mono (by omega))⟩

/-- What a step stands on behind its start. -/
structure Sb (w w1 : World) (b n m r c g v : Nat) (N : Nat → Nat) : Prop where
  p : MAt w1 b c g v
  k : Kp w1 b n m N
  rs : BAt w1 r (fun _ => false)
  bl : Below w.heap.size w w1
  far : b < w.heap.size ∧ w.heap.size ≤ n ∧ w.heap.size ≤ m ∧ w.heap.size ≤ r

theorem sb_new {w : World} {b c g v n0 n1 n2 n3 n4 : Nat} (h : MAt w b c g v) (h0 : n0 < 256) (h1 : n1 < 256) (h2 : n2 < 256) (h3 : n3 < 256) (h4 : n4 < 256) :
    Sb w (((w.alloc (.cells #[.pointer (some ⟨b, 0, none⟩)] 23)).alloc (.cells #[.int .u8 (n0 : Int), .int .u8 (n1 : Int), .int .u8 (n2 : Int), .int .u8 (n3 : Int), .int .u8 (n4 : Int)] 29)).alloc (.cells #[.bool false, .bool false, .bool false, .bool false, .bool false] 25)) b (w.heap.size + 1) w.heap.size (w.heap.size + 1 + 1) c g v (five n0 n1 n2 n3 n4) := by
  have hp := step_new h.lt h0 h1 h2 h3 h4
  exact ⟨h.below hp.2.2, hp.1, hp.2.1, hp.2.2, h.lt, by omega, by omega, by omega⟩

theorem Sb.br {w w1 : World} {b n m r c g v : Nat} {N : Nat → Nat} (h : Sb w w1 b n m r c g v N) : b ≠ r := by have := h.far; omega

/-- A world in which five answers were stored at block r. -/
theorem p5_at {w : World} {r : Nat} {f0 : Nat → Bool} (h : BAt w r f0) (f : Nat → Bool) : BAt (((((w.setCell ⟨r, 0, none⟩ (.bool (f 0))).setCell ⟨r, 1, none⟩ (.bool (f 1))).setCell ⟨r, 2, none⟩ (.bool (f 2))).setCell ⟨r, 3, none⟩ (.bool (f 3))).setCell ⟨r, 4, none⟩ (.bool (f 4))) r f :=
  (((((h.put 0 (by decide) (f 0)).put 1 (by decide) (f 1)).put 2 (by decide) (f 2)).put 3 (by decide) (f 3)).put 4 (by decide) (f 4)).to (fun j hj => by rcases (show j = 0 ∨ j = 1 ∨ j = 2 ∨ j = 3 ∨ j = 4 by omega) with rfl | rfl | rfl | rfl | rfl <;> rfl)
theorem p5_m {w : World} {r b c g v : Nat} (h : MAt w b c g v) (br : b ≠ r) (x0 x1 x2 x3 x4 : Value) : MAt (((((w.setCell ⟨r, 0, none⟩ x0).setCell ⟨r, 1, none⟩ x1).setCell ⟨r, 2, none⟩ x2).setCell ⟨r, 3, none⟩ x3).setCell ⟨r, 4, none⟩ x4) b c g v :=
  ((((h.other r 0 _ br).other r 1 _ br).other r 2 _ br).other r 3 _ br).other r 4 _ br
theorem p5_t {w0 w : World} {r b : Nat} (h : Turn b w0 w) (hr : w0.heap.size ≤ r) (x0 x1 x2 x3 x4 : Value) : Turn b w0 (((((w.setCell ⟨r, 0, none⟩ x0).setCell ⟨r, 1, none⟩ x1).setCell ⟨r, 2, none⟩ x2).setCell ⟨r, 3, none⟩ x3).setCell ⟨r, 4, none⟩ x4) :=
  Turn.newset (Turn.newset (Turn.newset (Turn.newset (Turn.newset h hr) hr) hr) hr) hr

set_option maxRecDepth 100000 in
set_option maxHeartbeats 4000000 in
theorem Step_idle (b g v n0 n1 n2 n3 n4 : Nat) (clock : Int) (w : World) (h : MAt w b 16 g v) : Calls Try.prog 16 #[.pointer (some ⟨b, 0, none⟩), .int .i64 clock, .agg #[.int .u8 (n0 : Int), .int .u8 (n1 : Int), .int .u8 (n2 : Int), .int .u8 (n3 : Int), .int .u8 (n4 : Int)]] w fun e w' => e = .returned (.agg #[.bool false, .bool false, .bool false, .bool false, .bool false]) ∧ Below w.heap.size w w' := by
  have H : Hid (MAt w b 16 g v) := h
  clear h
  go_enter Try.func16, Try.ntmps16
  go_wp2_with (go_at_call 20; fail)
  refine (Busy b 16 g v _ (H.out.below (by go_grown))).mono ?_
  rintro e w1 ⟨rfl, rfl⟩
  rw [show decide (16 < 16) = false from rfl]
  go_wp2
  go_returns
  exact ⟨rfl, by go_grown⟩

end Go.Proofs.Ytkondnlilkpdoaa.Mo
