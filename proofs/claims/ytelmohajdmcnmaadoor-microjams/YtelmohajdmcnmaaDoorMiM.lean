/- The processor between two cycles, and what a cycle's end makes of it: plain mathematics. -/
import Derived.Test.YtelmohajdmcnmaaDoorEx1
import Derived.Test.YtelmohajdmcnmaaDoorCode8
namespace Go.Proofs.YtelmohajdmcnmaaDoor.Ex
def Rg.fl (r : Rg) (p : Nat) : Rg := ⟨r.a, r.x, r.y, r.s, p, r.pc⟩
def Rg.sp (r : Rg) (s : Nat) : Rg := ⟨r.a, r.x, r.y, s, r.p, r.pc⟩
def Rg.go (r : Rg) (pc : Nat) : Rg := ⟨r.a, r.x, r.y, r.s, r.p, pc⟩
def Rg.dn (r : Rg) : Rg := r.sp ((r.s + 255) % 256)
def Rg.up (r : Rg) : Rg := r.sp ((r.s + 1) % 256)
def Rg.nx (r : Rg) : Rg := r.go ((r.pc + 1) % 65536)
end Go.Proofs.YtelmohajdmcnmaaDoor.Ex
namespace Go.Proofs.YtelmohajdmcnmaaDoor.Mi
open Go.RowKit Alu Ex
set_option linter.unusedVariables false

/-- A row of cells at a block's beginning. -/
structure Row (w : World) (b : Nat) (cs : List Go.Value) : Prop where
  at_ : ∀ i v, cs[i]? = some v → w.cell? ⟨b, i, none⟩ = some v
  fz : ∀ j, w.frozen? ⟨b, j, none⟩ = false
section
variable {w w' : World} {b c : Nat} {cs cs' : List Go.Value}
theorem Row.put (h : Row w b cs) (i : Nat) (v : Go.Value) : Row (w.setCell ⟨b, i, none⟩ v) b (cs.set i v) := by
  refine ⟨fun j u hu => ?_, fun j => by rw [World.frozen?_setCell]; exact h.fz j⟩
  by_cases hj : j = i
  · subst hj
    by_cases hl : j < cs.length
    · rw [List.getElem?_set_self hl] at hu
      obtain rfl := Option.some.inj hu
      exact World.cell?_setCell_same' _ _ _ (by rw [h.at_ j _ (List.getElem?_eq_getElem hl)]; rfl)
    · have hn : (cs.set j v)[j]? = none := List.getElem?_eq_none (by rw [List.length_set]; omega)
      rw [hn] at hu
      exact absurd hu (by simp)
  · rw [List.getElem?_set_ne (Ne.symm hj)] at hu
    exact (World.cell?_setCell_other _ _ _ _ (by first | (simp; done) | (simp; omega))).trans (h.at_ j u hu)
theorem Row.to (h : Row w b cs) (e : cs = cs') : Row w b cs' := e ▸ h
theorem Row.kept (h : Row w b cs) (hb : w'.heap[b]? = w.heap[b]?) : Row w' b cs :=
  ⟨fun i v hv => (World.cell?_of_block (w := w) hb).trans (h.at_ i v hv), fun j => (World.frozen?_of_block (w := w) hb).trans (h.fz j)⟩
theorem Row.lt (h : Row w b cs) (hc : 0 < cs.length) : b < w.heap.size := lt_of_cell (h.at_ 0 _ (List.getElem?_eq_getElem hc))
theorem Row.below (h : Row w b cs) (hc : 0 < cs.length) (hb : Below w.heap.size w w') : Row w' b cs := h.kept (hb.block b (h.lt hc))
theorem Row.turn (h : Row w b cs) (hc : 0 < cs.length) (ht : Turn c w w') (hn : b ≠ c) : Row w' b cs := h.kept (ht.block b (h.lt hc) hn)
theorem Row.draws (h : Row w b cs) (q : Nat) : Row (w.drewN q) b cs := ⟨h.at_, h.fz⟩
theorem Row.drew (h : Row w b cs) : Row w.drew b cs := ⟨h.at_, h.fz⟩
theorem Row.alloc (h : Row w b cs) (hc : 0 < cs.length) (o : Obj) : Row (w.alloc o) b cs := h.below hc ((Below.refl _ w).alloc (Nat.le_refl _) o)
theorem Row.new (w : World) (cs : Array Go.Value) (t : TypeId) : Row (w.alloc (.cells cs t)) w.heap.size cs.toList := by
  have hh := heap_alloc_new w (.cells cs t)
  exact ⟨fun i v hv => (cell_of_row _ _ _ _ _ _ hh).trans (by simpa using hv), fun j => frozen_of_row _ _ _ _ _ hh⟩
end

/-- The processor. -/
structure Cp where
  r : Rg
  st : Nat
  ad : Nat
  wr : Bool
  da : Nat
  op : Nat
  nm : ByteArray
  md : Nat
  kd : Int
  kn : Bool
  lo : Nat
  hi : Nat
  rb : Rg

structure Cp.ok (c : Cp) : Prop where
  r : c.r.ok
  st : c.st ≤ 33
  ad : c.ad < 65536
  da : c.da < 256
  op : c.op < 256
  md : c.md ≤ 12
  kd0 : 0 ≤ c.kd
  kd1 : c.kd ≤ 12
  lo : c.lo < 256
  hi : c.hi < 256
  rb : c.rb.ok

/-- Its cells. -/
def Cp.cells (c : Cp) : List Go.Value := [.int .u8 (c.r.a : Int), .int .u8 (c.r.x : Int), .int .u8 (c.r.y : Int), .int .u8 (c.r.s : Int), .int .u8 (c.r.p : Int), .int .u16 (c.r.pc : Int), .int .u8 (c.st : Int), .int .u16 (c.ad : Int), .bool c.wr, .int .u8 (c.da : Int), .int .u8 (c.op : Int), .string c.nm, .int .u8 (c.md : Int), .int .u8 c.kd, .bool c.kn, .int .u8 (c.lo : Int), .int .u8 (c.hi : Int), .int .u8 (c.rb.a : Int), .int .u8 (c.rb.x : Int), .int .u8 (c.rb.y : Int), .int .u8 (c.rb.s : Int), .int .u8 (c.rb.p : Int), .int .u16 (c.rb.pc : Int)]

theorem Cp.pos (c : Cp) : 0 < c.cells.length := by simp [Cp.cells]

def Cp.rd (c : Cp) (a s : Nat) : Cp := { c with st := s, ad := a, wr := false, da := 0 }
def Cp.wt (c : Cp) (a v s : Nat) : Cp := { c with st := s, ad := a, wr := true, da := v }
def Cp.ft (c : Cp) : Cp := c.rd c.r.pc 7
def Cp.jm (c : Cp) : Cp := c.rd 65535 12
def Cp.sr (c : Cp) (r : Rg) : Cp := { c with r := r }
def Cp.jp (c : Cp) (pl : Nat) : Cp := (c.sr (c.r.go pl)).ft
def Cp.fi (c : Cp) (r : Rg) : Cp := (c.sr r).ft
def jn (l h : Nat) : Nat := h * 256 + l
def Cp.ph (c : Cp) (v s : Nat) : Cp := c.wt (jn c.r.s 1) v s
def Cp.pl (c : Cp) (s : Nat) : Cp := c.rd (jn ((c.r.s + 1) % 256) 1) s
def Cp.ix (c : Cp) : Nat := if c.md = 4 ∨ c.md = 7 ∨ c.md = 9 then c.r.x else c.r.y
def Cp.tg (c : Cp) : Nat := (c.r.pc + if c.lo < 128 then c.lo else c.lo + 65280) % 65536
def Cp.br (c : Cp) : Cp := if c.tg / 256 = c.r.pc / 256 then c.jp c.tg else c.rd (jn (c.tg % 256) (c.r.pc / 256)) 11
def unsure (n : List UInt8) : Bool := n == [83, 72, 65] || n == [83, 72, 88] || n == [83, 72, 89] || n == [84, 65, 83]
def Cp.so (c : Cp) (pl : Nat) : Cp :=
  Cp.wt { c with rb := stR c.nm.toList c.r } (if pl / 256 ≠ c.hi ∧ unsure c.nm.toList = true then jn (pl % 256) (stV c.nm.toList c.r ((c.hi + 1) % 256)) else pl) (stV c.nm.toList c.r ((c.hi + 1) % 256)) 22
def Cp.ac (c : Cp) (pl : Nat) : Cp := if c.kd = 7 then c.jp pl else if c.kd = 2 then c.so pl else if c.kd = 3 then c.rd pl 20 else c.rd pl 19
def Cp.sm (c : Cp) : Nat := (c.lo + c.ix) % 256
def Cp.ri (c : Cp) : Cp := if c.lo ≤ c.sm ∧ c.kd = 1 then c.ac (jn c.sm c.hi) else c.rd (jn c.sm c.hi) 18
def Cp.rc (c : Cp) : Cp := if c.md = 7 ∨ c.md = 8 ∨ c.md = 10 then c.ri else c.ac (jn c.lo c.hi)
def Cp.tm (c : Cp) (b : Nat) : Cp := if c.md = 2 then c.fi (Ex.rd c.nm.toList c.r b) else if c.md = 3 then c.ac b else if c.md = 4 ∨ c.md = 5 then c.rd b 14 else if c.md = 9 then c.rd b 15 else if c.md = 10 then c.rd b 16 else c.rd c.r.pc 13
def Cp.sl (c : Cp) (l h : Nat) : Cp := { c with lo := l, hi := h }
def Cp.t1 (c : Cp) (b : Nat) : Cp :=
  if c.kd = 11 then c.ph (c.r.pc / 256) 25 else if c.kd = 8 then c.rd (jn c.r.s 1) 23 else if c.kd = 4 then (if gs c.nm.toList c.r.p = true then c.rd c.r.pc 10 else c.ft) else c.tm b
def Cp.tk (c : Cp) (b : Nat) : Cp := (c.sl b 0).t1 b
def clF (p : Nat) : Nat := W (W p 16 false) 32 true
def Cp.sd (c : Cp) (o : Nat) : Cp := { c with op := o, nm := Co.nameB o, md := Co.modeN o, kd := Co.kindN o, kn := Co.knownB o }
def Cp.b1 (c : Cp) : Cp := if c.kd = 12 then c.jm else if Co.lenF c.md = 1 ∧ c.kd ≠ 11 then c.rd c.r.pc 8 else c.rd c.r.pc 9
def Cp.bg (c : Cp) (o : Nat) : Cp := (c.sd o).b1
def isPHP (n : List UInt8) : Bool := n == [80, 72, 80]
def isPLP (n : List UInt8) : Bool := n == [80, 76, 80]
def Cp.pr (c : Cp) : Cp := c.ph (if isPHP c.nm.toList = true then W c.r.p 16 true else c.r.a) 24
def Cp.il (c : Cp) : Cp :=
  if c.kd = 0 then c.fi (sf c.nm.toList c.r) else if c.kd = 3 then c.fi { tuR c.nm.toList c.r c.r.a with a := tuV c.nm.toList c.r c.r.a } else if c.kd = 5 then c.pr else c.rd (jn c.r.s 1) 23
def lda : List UInt8 := [76, 68, 65]
def Cp.ur (c : Cp) (b : Nat) : Cp := if isPLP c.nm.toList = true then (c.sr (c.r.fl (clF b))).ft else (c.sr (Ex.rd lda c.r b)).ft
def Cp.cb (c : Cp) (pl : Nat) : Cp := if c.kd = 10 then c.jp pl else (c.sr (c.r.go pl)).rd pl 33
def Cp.pk (c : Cp) : Cp := if c.kd = 8 then c.ph (c.r.pc / 256) 25 else if c.kd = 6 then c.pl 29 else if c.kd = 10 then c.pl 30 else c.pl 31

/-- A cycle's end. -/
def Cp.clk (c : Cp) (b : Nat) : Cp :=
  match c.st with
  | 0 => c.rd c.r.pc 1
  | 1 => c.rd (jn c.r.s 1) 2
  | 2 => (c.sr c.r.dn).rd (jn c.r.dn.s 1) 3
  | 3 => (c.sr c.r.dn).rd (jn c.r.dn.s 1) 4
  | 4 => (c.sr c.r.dn).rd 65532 5
  | 5 => (c.sl b c.hi).rd ((c.ad + 1) % 65536) 6
  | 6 => (c.sr (c.r.fl (W c.r.p 4 true))).jp (jn c.lo b)
  | 7 => (c.sr c.r.nx).bg b
  | 8 => c.il
  | 9 => (c.sr c.r.nx).tk b
  | 10 => c.br
  | 11 => c.jp c.tg
  | 13 => if c.md = 12 then (c.sr c.r.nx).rd (jn c.lo b) 16 else ((c.sr c.r.nx).sl c.lo b).rc
  | 14 => c.ac (jn c.sm 0)
  | 15 => c.rd (jn c.sm 0) 16
  | 16 => (c.sl b c.hi).rd (jn ((c.ad % 256 + 1) % 256) (c.ad / 256)) 17
  | 17 => (c.sl c.lo b).rc
  | 18 => c.ac ((jn c.lo c.hi + c.ix) % 65536)
  | 19 => c.fi (Ex.rd c.nm.toList c.r b)
  | 20 => c.wt c.ad b 21
  | 21 => Cp.wt { c with rb := tuR c.nm.toList c.r c.da } c.ad (tuV c.nm.toList c.r c.da) 22
  | 22 => c.fi c.rb
  | 23 => c.pk
  | 24 => (c.sr c.r.dn).ft
  | 25 => (c.sr c.r.dn).ph (c.r.pc % 256) 26
  | 26 => if c.kd = 8 then (c.sr c.r.dn).rd c.r.pc 28 else (c.sr c.r.dn).ph (W c.r.p 16 true) 27
  | 27 => (c.sr c.r.dn).rd 65534 5
  | 28 => c.jp (jn c.lo b)
  | 29 => (c.sr c.r.up).ur b
  | 30 => (c.sr (c.r.up.fl (clF b))).pl 31
  | 31 => ((c.sr c.r.up).sl b c.hi).pl 32
  | 32 => (c.sr c.r.up).cb (jn c.lo b)
  | 33 => c.jp ((c.r.pc + 1) % 65536)
  | _ => c

end Go.Proofs.YtelmohajdmcnmaaDoor.Mi
