/- Paddles and buttons in their block; plain numbers of them. -/
import Derived.Test.YtdnfclhljahghaaRowB
namespace Go.Proofs.Ytdnfclhljahghaa.Po
open Go.RowKit
set_option linter.unusedVariables false

structure Pt where
  v0 : Nat
  v1 : Nat
  v2 : Nat
  v3 : Nat
  c : Nat
  d : Bool
  l : Bool
  h0 : Bool
  t0 : Bool
  h1 : Bool
  t1 : Bool

def Pt.cells (p : Pt) : List Go.Value := [.int .u8 (p.v0 : Int), .int .u8 (p.v1 : Int), .int .u8 (p.v2 : Int), .int .u8 (p.v3 : Int), .int .i64 (p.c : Int), .bool p.d, .bool p.l, .bool p.h0, .bool p.t0, .bool p.h1, .bool p.t1]
theorem Pt.pos (p : Pt) : 0 < p.cells.length := by simp [Pt.cells]
structure Pt.ok (p : Pt) : Prop where
  v0 : p.v0 < 256
  v1 : p.v1 < 256
  v2 : p.v2 < 256
  v3 : p.v3 < 256
  c : p.c ≤ 511

structure PAt (w : World) (b : Nat) (p : Pt) : Prop where
  r : Row w b p.cells
  ok : p.ok

section
variable {w w' : World} {b k : Nat} {p : Pt}
theorem PAt.lt (h : PAt w b p) : b < w.heap.size := h.r.lt p.pos
theorem PAt.kept (h : PAt w b p) (hb : w'.heap[b]? = w.heap[b]?) : PAt w' b p := ⟨h.r.kept hb, h.ok⟩
theorem PAt.below (h : PAt w b p) (hb : Below w.heap.size w w') : PAt w' b p := h.kept (hb.block b h.lt)
theorem PAt.old {n : Nat} (h : PAt w b p) (hb : Below n w w') (hn : b < n) : PAt w' b p := h.kept (hb.block b hn)
theorem PAt.turn (h : PAt w b p) (ht : Turn k w w') (hc : b ≠ k) : PAt w' b p := h.kept (ht.block b h.lt hc)
theorem PAt.draws (h : PAt w b p) (q : Nat) : PAt (w.drewN q) b p := ⟨h.r.draws q, h.ok⟩
theorem PAt.drew (h : PAt w b p) : PAt w.drew b p := ⟨h.r.drew, h.ok⟩
theorem PAt.alloc (h : PAt w b p) (o : Obj) : PAt (w.alloc o) b p := ⟨h.r.alloc p.pos o, h.ok⟩
/-- All its cells. -/
theorem PAt.all (h : PAt w b p) : (w.cell? ⟨b, 0, none⟩ = some (.int .u8 (p.v0 : Int)) ∧ w.cell? ⟨b, 1, none⟩ = some (.int .u8 (p.v1 : Int)) ∧ w.cell? ⟨b, 2, none⟩ = some (.int .u8 (p.v2 : Int)) ∧ w.cell? ⟨b, 3, none⟩ = some (.int .u8 (p.v3 : Int)) ∧ w.cell? ⟨b, 4, none⟩ = some (.int .i64 (p.c : Int)) ∧ w.cell? ⟨b, 5, none⟩ = some (.bool p.d)) ∧
    (w.cell? ⟨b, 6, none⟩ = some (.bool p.l) ∧ w.cell? ⟨b, 7, none⟩ = some (.bool p.h0) ∧ w.cell? ⟨b, 8, none⟩ = some (.bool p.t0) ∧ w.cell? ⟨b, 9, none⟩ = some (.bool p.h1) ∧ w.cell? ⟨b, 10, none⟩ = some (.bool p.t1)) :=
  ⟨⟨h.r.at_ 0 _ rfl, h.r.at_ 1 _ rfl, h.r.at_ 2 _ rfl, h.r.at_ 3 _ rfl, h.r.at_ 4 _ rfl, h.r.at_ 5 _ rfl⟩, ⟨h.r.at_ 6 _ rfl, h.r.at_ 7 _ rfl, h.r.at_ 8 _ rfl, h.r.at_ 9 _ rfl, h.r.at_ 10 _ rfl⟩⟩
end

/-- What a latch comes to. -/
def un (on h t : Bool) : Bool := !on || (t && h)

def Pt.new : Pt := ⟨0, 0, 0, 0, 0, false, false, true, true, true, true⟩
def Pt.in_ (p : Pt) (n : Int) (v : Nat) : Pt :=
  if n = 0 then { p with v0 := v } else if n = 1 then { p with v1 := v } else if n = 2 then { p with v2 := v } else if n = 3 then { p with v3 := v }
  else if n = 4 then { p with h0 := decide (128 ≤ v), t0 := un p.l (decide (128 ≤ v)) p.t0 } else if n = 5 then { p with h1 := decide (128 ≤ v), t1 := un p.l (decide (128 ≤ v)) p.t1 } else p
def Pt.line (p : Pt) : Pt := if p.d = true then p else { p with c := min (p.c + 1) 511 }
def Pt.dump (p : Pt) (on : Bool) : Pt := { p with d := on, c := if on = true then 0 else p.c }
def Pt.latch (p : Pt) (on : Bool) : Pt := { p with l := on, t0 := un on p.h0 p.t0, t1 := un on p.h1 p.t1 }
def Pt.high (p : Pt) (n : Int) : Bool :=
  if n = 0 then !p.d && decide (p.v0 < p.c) else if n = 1 then !p.d && decide (p.v1 < p.c) else if n = 2 then !p.d && decide (p.v2 < p.c) else if n = 3 then !p.d && decide (p.v3 < p.c)
  else if n = 4 then (if p.l = true then p.t0 else p.h0) else if n = 5 then (if p.l = true then p.t1 else p.h1) else false

theorem Pt.ok.line {p : Pt} (h : p.ok) : p.line.ok := by
  unfold Pt.line
  split
  · exact h
  · exact ⟨h.v0, h.v1, h.v2, h.v3, Nat.min_le_right _ _⟩
theorem Pt.ok.dump {p : Pt} (h : p.ok) (on : Bool) : (p.dump on).ok := ⟨h.v0, h.v1, h.v2, h.v3, by have := h.c; simp only [Pt.dump]; split <;> omega⟩
theorem Pt.ok.latch {p : Pt} (h : p.ok) (on : Bool) : (p.latch on).ok := ⟨h.v0, h.v1, h.v2, h.v3, h.c⟩
theorem Pt.ok.in_ {p : Pt} (h : p.ok) (n : Int) (v : Nat) (hv : v < 256) : (p.in_ n v).ok := by
  obtain ⟨a0, a1, a2, a3, a4⟩ := h
  unfold Pt.in_
  repeat' split
  all_goals (constructor <;> assumption)
theorem Pt.ok.new : Pt.new.ok := by constructor <;> decide

theorem in_no {p : Pt} {n : Int} {v : Nat} (h : ¬ (0 ≤ n ∧ n < 6)) : p.in_ n v = p := by
  unfold Pt.in_
  rw [if_neg (by omega), if_neg (by omega), if_neg (by omega), if_neg (by omega), if_neg (by omega), if_neg (by omega)]
theorem high_no {p : Pt} {n : Int} (h : ¬ (0 ≤ n ∧ n < 6)) : p.high n = false := by
  unfold Pt.high
  rw [if_neg (by omega), if_neg (by omega), if_neg (by omega), if_neg (by omega), if_neg (by omega), if_neg (by omega)]
theorem six {n : Int} (h : 0 ≤ n ∧ n < 6) : n = 0 ∨ n = 1 ∨ n = 2 ∨ n = 3 ∨ n = 4 ∨ n = 5 := by omega

/-- Bit 7 of a byte. -/
theorem bit7 : ∀ v : Nat, v < 256 → (bits .and .u8 (v : Int) 128 != 0) = decide (128 ≤ v) := by decide +kernel

end Go.Proofs.Ytdnfclhljahghaa.Po
