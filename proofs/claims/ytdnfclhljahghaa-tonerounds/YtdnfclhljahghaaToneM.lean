/- A voice in its block; plain numbers of it. -/
import Derived.Test.YtdnfclhljahghaaRowB
import Derived.Test.YtdnfclhljahghaaPoly8
import Derived.Test.YtdnfclhljahghaaPoly16
namespace Go.Proofs.Ytdnfclhljahghaa.To
open Go.RowKit
set_option linter.unusedVariables false

structure Vo where
  c : Nat
  r : Nat
  v : Nat
  f4 : Nat
  f5 : Nat
  f9 : Nat
  k : Nat
  hi : Bool

def Vo.cells (p : Vo) : List Go.Value := [.int .u8 (p.c : Int), .int .u8 (p.r : Int), .int .u8 (p.v : Int), .int .u8 (p.f4 : Int), .int .u8 4, .int .u8 1, .int .u8 (p.f5 : Int), .int .u8 5, .int .u8 2, .int .u16 (p.f9 : Int), .int .u8 9, .int .u8 4, .int .i64 (p.k : Int), .bool p.hi]
theorem Vo.pos (p : Vo) : 0 < p.cells.length := by simp [Vo.cells]
structure Vo.ok (p : Vo) : Prop where
  c : p.c < 16
  r : p.r < 32
  v : p.v < 16
  f4 : p.f4 < 16
  f5 : p.f5 < 32
  f9 : p.f9 < 512
  k : p.k ≤ 96

structure VAt (w : World) (b : Nat) (p : Vo) : Prop where
  r : Row w b p.cells
  ok : p.ok

section
variable {w w' : World} {b k : Nat} {p : Vo}
theorem VAt.lt (h : VAt w b p) : b < w.heap.size := h.r.lt p.pos
theorem VAt.kept (h : VAt w b p) (hb : w'.heap[b]? = w.heap[b]?) : VAt w' b p := ⟨h.r.kept hb, h.ok⟩
theorem VAt.below (h : VAt w b p) (hb : Below w.heap.size w w') : VAt w' b p := h.kept (hb.block b h.lt)
theorem VAt.old {n : Nat} (h : VAt w b p) (hb : Below n w w') (hn : b < n) : VAt w' b p := h.kept (hb.block b hn)
theorem VAt.turn (h : VAt w b p) (ht : Turn k w w') (hc : b ≠ k) : VAt w' b p := h.kept (ht.block b h.lt hc)
theorem VAt.draws (h : VAt w b p) (q : Nat) : VAt (w.drewN q) b p := ⟨h.r.draws q, h.ok⟩
theorem VAt.drew (h : VAt w b p) : VAt w.drew b p := ⟨h.r.drew, h.ok⟩
theorem VAt.alloc (h : VAt w b p) (o : Obj) : VAt (w.alloc o) b p := ⟨h.r.alloc p.pos o, h.ok⟩
theorem VAt.p4 (h : VAt w b p) : Poly8.At w b 3 p.f4 4 1 := ⟨h.r.at_ 3 _ rfl, h.r.at_ 4 _ rfl, h.r.at_ 5 _ rfl, h.r.fz 3⟩
theorem VAt.p5 (h : VAt w b p) : Poly8.At w b 6 p.f5 5 2 := ⟨h.r.at_ 6 _ rfl, h.r.at_ 7 _ rfl, h.r.at_ 8 _ rfl, h.r.fz 6⟩
theorem VAt.p9 (h : VAt w b p) : Poly16.At w b 9 p.f9 9 4 := ⟨h.r.at_ 9 _ rfl, h.r.at_ 10 _ rfl, h.r.at_ 11 _ rfl, h.r.fz 9⟩
theorem VAt.g4 (h : VAt w b p) : Poly8.Good 4 1 p.f4 := ⟨by decide, by decide, by decide, h.ok.f4⟩
theorem VAt.g5 (h : VAt w b p) : Poly8.Good 5 2 p.f5 := ⟨by decide, by decide, by decide, h.ok.f5⟩
theorem VAt.g9 (h : VAt w b p) : Poly16.Good 9 4 p.f9 := ⟨by decide, by decide, by decide, h.ok.f9⟩
end

def Vo.len (p : Vo) : Nat := if 12 ≤ p.c then 3 * (p.r + 1) else p.r + 1
/-- The states of the poly (5, 2) behind 0 and 18 steps from 0. -/
def isAt (s : Nat) : Bool := s == 0 || s == orb 5 2 18 0
/-- Does a beat go on? -/
def goB (c s : Nat) (five : Bool) : Bool := if c % 4 = 2 then isAt s else if c % 4 = 3 then five else true
def Vo.beat (p : Vo) : Vo :=
  let q := { p with f5 := nxt 5 2 p.f5 }
  if goB p.c (nxt 5 2 p.f5) (decide (p.f5 % 2 = 1)) = false then q
  else if p.c / 4 % 2 = 1 then { q with hi := !p.hi }
  else if p.c = 8 then { q with hi := decide (p.f9 % 2 = 1), f9 := nxt 9 4 p.f9 }
  else if 8 ≤ p.c then { q with hi := decide (p.f5 % 2 = 1) }
  else { q with hi := decide (p.f4 % 2 = 1), f4 := nxt 4 1 p.f4 }
def Vo.tick (p : Vo) : Vo := if p.k + 1 < p.len then { p with k := p.k + 1 } else Vo.beat { p with k := 0 }
def Vo.level (p : Vo) : Nat := if p.hi = true ∨ p.c = 0 ∨ p.c = 11 then p.v else 0
def Vo.new : Vo := ⟨0, 0, 0, 0, 0, 0, 0, false⟩

theorem n4 {s : Nat} (h : s < 16) : nxt 4 1 s < 16 := nxt_lt (size := 4) (by decide) h
theorem n5 {s : Nat} (h : s < 32) : nxt 5 2 s < 32 := nxt_lt (size := 5) (by decide) h
theorem n9 {s : Nat} (h : s < 512) : nxt 9 4 s < 512 := nxt_lt (size := 9) (by decide) h
theorem Vo.len_le {p : Vo} (h : p.r < 32) : p.len ≤ 96 := by unfold Vo.len; split <;> omega
theorem Vo.ok.beat {p : Vo} (h : p.ok) : p.beat.ok := by
  obtain ⟨h0, h1, h2, h3, h4, h5, h6⟩ := h
  unfold Vo.beat
  repeat' split
  all_goals (constructor <;> first | assumption | exact n5 h4 | exact n9 h5 | exact n4 h3)
theorem Vo.ok.tick {p : Vo} (h : p.ok) : p.tick.ok := by
  unfold Vo.tick
  split
  · have := Vo.len_le h.r
    exact ⟨h.c, h.r, h.v, h.f4, h.f5, h.f9, by simp only; omega⟩
  · exact Vo.ok.beat ⟨h.c, h.r, h.v, h.f4, h.f5, h.f9, by simp⟩
theorem Vo.beat_k (p : Vo) : p.beat.k = p.k := by unfold Vo.beat; (repeat' split); all_goals rfl
theorem Vo.ok.new : Vo.new.ok := by constructor <;> decide

theorem and4 : ∀ c : Nat, c < 16 → (bits .and .u8 (c : Int) 4 != 0) = decide (c / 4 % 2 = 1) := by decide +kernel
theorem and8 : ∀ c : Nat, c < 16 → (bits .and .u8 (c : Int) 8 != 0) = decide (8 ≤ c) := by decide +kernel
theorem and3 : ∀ c : Nat, c < 16 → bits .and .u8 (c : Int) 3 = ((c % 4 : Nat) : Int) := by decide +kernel

theorem per5 : IsPer 5 2 0 31 := chip5.1
theorem place5 : ∀ s : Nat, s < 32 → (plB 5 2 31 s && (((plN 5 2 31 s : Nat) : Int) == 0 || ((plN 5 2 31 s : Nat) : Int) == 18)) = isAt s := by decide +kernel

end Go.Proofs.Ytdnfclhljahghaa.To
