/- Plain: a cartridge, what it watches, where its bytes stand. -/
import Derived.Test.YtcohalkofahphaaDoorSound
import Derived.Laws.BitsAllLaws
namespace Go.Proofs.YtcohalkofahphaaDoor.Ca
open Go.RowKit

/-- Of what there was, only block b has turned. -/
structure Turn (b : Nat) (w w' : World) : Prop where
  os : w'.os = w.os
  tape : w'.tape = w.tape
  output : w'.output = w.output
  size : w.heap.size ≤ w'.heap.size
  block : ∀ k, k < w.heap.size → k ≠ b → w'.heap[k]? = w.heap[k]?

theorem Turn.refl (b : Nat) (w : World) : Turn b w w := ⟨rfl, rfl, rfl, Nat.le_refl _, fun _ _ _ => rfl⟩
theorem Turn.trans {b : Nat} {w w' w'' : World} (h : Turn b w w') (g : Turn b w' w'') : Turn b w w'' :=
  ⟨g.os.trans h.os, g.tape.trans h.tape, g.output.trans h.output, Nat.le_trans h.size g.size, fun i hi hb => (g.block i (Nat.lt_of_lt_of_le hi h.size) hb).trans (h.block i hi hb)⟩
theorem Turn.set {b : Nat} {w w' : World} (h : Turn b w w') (o : Nat) (v : Value) : Turn b w (w'.setCell ⟨b, o, none⟩ v) :=
  h.trans ⟨rfl, rfl, rfl, by simp [World.setCell], fun _ _ hb => Below.heap_setCell _ _ _ _ hb⟩
theorem Turn.below {b n : Nat} {w w' : World} (h : Turn b w w') (hn : n ≤ b) (hs : n ≤ w.heap.size) : Below n w w' := ⟨h.os, h.tape, h.output, h.size, fun k hk => h.block k (by omega) (by omega)⟩
theorem Turn.of_below {b : Nat} {w w' : World} (h : Below w.heap.size w w') : Turn b w w' := ⟨h.os, h.tape, h.output, h.size, fun k hk _ => h.block k hk⟩
theorem Turn.draws {b q : Nat} {w w' : World} (h : Turn b (w.drewN q) w') : Turn b w w' := ⟨h.os, h.tape, h.output, h.size, h.block⟩

/-- A cartridge: its image, its shape, the banks that are shown, its tag, its hot rows, whether the stack's place came last, its extra RAM. -/
structure Ct where
  img : ByteArray
  banks : Int
  size : Int
  win : Int
  extra : Bool
  s0 : Int
  s1 : Int
  s2 : Int
  s3 : Int
  tag : ByteArray
  h0 : Int
  g0 : Int
  h1 : Int
  g1 : Int
  h2 : Int
  g2 : Int
  stack : Bool
  ex : List Int

def Ct.cells (c : Ct) : List Value := .string c.img :: .int .i64 c.banks :: .int .i64 c.size :: .int .i64 c.win :: .bool c.extra :: .int .i64 c.s0 :: .int .i64 c.s1 :: .int .i64 c.s2 :: .int .i64 c.s3 :: .string c.tag :: .int .u16 c.h0 :: .int .u16 c.g0 :: .int .u16 c.h1 :: .int .u16 c.g1 :: .int .u16 c.h2 :: .int .u16 c.g2 :: .bool c.stack :: c.ex.map fun x => .int .u8 x

/-- The cartridge lies in block b. -/
def CAt (w : World) (b : Nat) (c : Ct) : Prop := w.heap[b]? = some (.cells c.cells.toArray 85 (0, 0))

section
variable {w w' : World} {b : Nat} {c : Ct}
theorem CAt.lt (h : CAt w b c) : b < w.heap.size := (Array.getElem?_eq_some_iff.1 h).1
theorem CAt.kept (h : CAt w b c) (hb : w'.heap[b]? = w.heap[b]?) : CAt w' b c := hb.trans h
theorem CAt.below (h : CAt w b c) (hb : Below w.heap.size w w') : CAt w' b c := h.kept (hb.block b h.lt)
theorem CAt.turn {d : Nat} (h : CAt w b c) (ht : Turn d w w') (hd : b ≠ d) : CAt w' b c := h.kept (ht.block b h.lt hd)
theorem CAt.draws (h : CAt w b c) (q : Nat) : CAt (w.drewN q) b c := h
theorem CAt.cell (h : CAt w b c) (i : Nat) : w.cell? ⟨b, i, none⟩ = c.cells[i]? := by rw [Joins.cell_of_block h i]; simp
theorem CAt.fz (h : CAt w b c) (o : Nat) : w.frozen? ⟨b, o, none⟩ = false := frozen_of_row _ _ _ _ _ h
theorem CAt.ex (h : CAt w b c) (j : Nat) : w.cell? ⟨b, 17 + j, none⟩ = (c.ex[j]?).map fun x => Value.int .u8 x := by
  rw [h.cell, Nat.add_comm]
  show (c.ex.map fun x => Value.int .u8 x)[j]? = _
  rw [List.getElem?_map]
theorem CAt.set (h : CAt w b c) (i : Nat) (v : Value) {c' : Ct} (hc : c.cells.set i v = c'.cells) : CAt (w.setCell ⟨b, i, none⟩ v) b c' := by
  show _ = _
  rw [Joins.block_setCell h, ← hc]
  congr 2
  simp
end

/-- The bank that a window shows. -/
def Ct.at (c : Ct) : Nat → Int
  | 0 => c.s0
  | 1 => c.s1
  | 2 => c.s2
  | _ => c.s3
def Ct.put (c : Ct) (k : Nat) (v : Int) : Ct := match k with
  | 0 => { c with s0 := v }
  | 1 => { c with s1 := v }
  | 2 => { c with s2 := v }
  | _ => { c with s3 := v }
theorem CAt.shown {w : World} {b : Nat} {c : Ct} (h : CAt w b c) {k : Nat} (hk : k < 4) : w.cell? ⟨b, 5 + k, none⟩ = some (.int .i64 (c.at k)) := by
  rw [h.cell]
  match k, hk with
  | 0, _ => rfl
  | 1, _ => rfl
  | 2, _ => rfl
  | 3, _ => rfl
theorem CAt.shows {w : World} {b : Nat} {c : Ct} (h : CAt w b c) {k : Nat} (hk : k < 4) (v : Int) : CAt (w.setCell ⟨b, 5 + k, none⟩ (.int .i64 v)) b (c.put k v) := by
  apply h.set
  match k, hk with
  | 0, _ => rfl
  | 1, _ => rfl
  | 2, _ => rfl
  | 3, _ => rfl
def Ct.ram (c : Ct) (j : Nat) (x : Int) : Ct := { c with ex := c.ex.set j x }
theorem CAt.ram {w : World} {b : Nat} {c : Ct} (h : CAt w b c) (j : Nat) (x : Int) : CAt (w.setCell ⟨b, 17 + j, none⟩ (.int .u8 x)) b (c.ram j x) := by
  apply h.set
  rw [Nat.add_comm]
  show _ :: _ :: _ :: _ :: _ :: _ :: _ :: _ :: _ :: _ :: _ :: _ :: _ :: _ :: _ :: _ :: _ :: (c.ex.map fun x => Value.int .u8 x).set j (.int .u8 x) = _
  rw [← List.map_set]
  rfl
def Ct.arm (c : Ct) (s : Bool) : Ct := { c with stack := s }
theorem CAt.arm {w : World} {b : Nat} {c : Ct} (h : CAt w b c) (s : Bool) : CAt (w.setCell ⟨b, 16, none⟩ (.bool s)) b (c.arm s) := h.set 16 _ rfl

/-- A hot row's first offset and how many there are. -/
def Ct.hot (c : Ct) : Nat → Int × Int
  | 0 => (c.h0, c.g0)
  | 1 => (c.h1, c.g1)
  | _ => (c.h2, c.g2)
/-- Is the offset one of the row's? -/
def hits (c : Ct) (k : Nat) (o : Int) : Bool := decide ((c.hot k).1 ≤ o) && decide (o - (c.hot k).1 < (c.hot k).2)
/-- Behind the first k rows. -/
def rows (c : Ct) (o : Int) : Nat → Ct
  | 0 => c
  | k + 1 => if hits c k o then (rows c o k).put k (o - (c.hot k).1) else rows c o k
/-- Behind an access to its own offset o. -/
def own (c : Ct) (o x : Int) : Ct := if c.extra && decide (o < 128) then (rows c o 3).ram o.toNat x else rows c o 3
/-- Behind an access, as FE sees it. -/
def pile (c : Ct) (a x : Int) : Ct := (if c.stack then c.put 0 (if x / 32 % 2 = 1 then 0 else 1) else c).arm (decide (a = 510))
/-- Behind an access to the address a, of 13 bits. -/
def watch13 (c : Ct) (a x : Int) (wr : Bool) : Ct :=
  if c.tag.toList = [51, 70] then if wr && decide (a < 64) then c.put 0 (x % c.banks) else c
  else if c.tag.toList = [70, 69] then pile c a x
  else if 4096 ≤ a then own c (a - 4096) x else c
def watch (c : Ct) (a x : Int) (wr : Bool) : Ct := watch13 c (a % 8192) x wr

/-- Where in the image the byte at an offset stands. -/
def place (c : Ct) (o : Int) : Int := c.at (o / c.size).toNat * c.size + o % c.size
def wher (c : Ct) (a : Int) : Int := if a / 4096 % 2 = 0 then -1 else if c.extra && decide (a % 4096 < 256) then -1 else place c (a % 4096)

theorem mask13 (a : Nat) (h : a < 65536) : bits .and .u16 (a : Int) 8191 = ((a % 8192 : Nat) : Int) := by
  rw [show (8191 : Int) = ((8191 : Nat) : Int) from rfl, u16_and_nat a 8191 h (by decide), show 8191 = 2 ^ 13 - 1 from rfl, Nat.and_two_pow_sub_one_eq_mod]
theorem mask12 (a : Nat) (h : a < 65536) : bits .and .u16 (a : Int) 4095 = ((a % 4096 : Nat) : Int) := by
  rw [show (4095 : Int) = ((4095 : Nat) : Int) from rfl, u16_and_nat a 4095 h (by decide), show 4095 = 2 ^ 12 - 1 from rfl, Nat.and_two_pow_sub_one_eq_mod]
theorem bit12 (a : Nat) (h : a < 65536) : bits .and .u16 (a : Int) 4096 = ((a / 4096 % 2 * 4096 : Nat) : Int) := by
  rw [show (4096 : Int) = ((4096 : Nat) : Int) from rfl, u16_and_nat a 4096 h (by decide), show 4096 = 2 ^ 12 from rfl, nat_bit]
theorem bit5 (a : Nat) (h : a < 256) : bits .and .u8 (a : Int) 32 = ((a / 32 % 2 * 32 : Nat) : Int) := by
  rw [show (32 : Int) = ((32 : Nat) : Int) from rfl, u8_and_nat a 32 h (by decide), show 32 = 2 ^ 5 from rfl, nat_bit]

end Go.Proofs.YtcohalkofahphaaDoor.Ca
