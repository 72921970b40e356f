/- What the law of layer 20 holds: the ports, the document's; an act. -/
import Derived.Test.YtdnfclhljahghaaRefP2
import Derived.Test.YtdnfclhljahghaaRefP3
import Derived.Test.YtdnfclhljahghaaRefPH
import Derived.Test.YtdnfclhljahghaaRefPW
import Derived.Test.YtdnfclhljahghaaSeenX
namespace Go.Proofs.Ytdnfclhljahghaa.Po
open Go.RowKit
set_option linter.unusedVariables false

theorem Pt.fit.new : Pt.new.fit := ⟨fun _ => ⟨rfl, rfl⟩, (fun h => by cases h), (fun h => by cases h)⟩
theorem un_off (h t : Bool) : un false h t = true := rfl
theorem un_on (h t : Bool) : un true h t = (t && h) := rfl
theorem Pt.fit.line {p : Pt} (h : p.fit) : p.line.fit := by
  unfold Pt.line
  split
  · exact h
  · exact ⟨h.off, h.on0, h.on1⟩
theorem Pt.fit.dump {p : Pt} (h : p.fit) (on : Bool) : (p.dump on).fit := ⟨h.off, h.on0, h.on1⟩
theorem Pt.fit.latch {p : Pt} (h : p.fit) (on : Bool) : (p.latch on).fit := by
  cases on
  · exact ⟨fun _ => ⟨rfl, rfl⟩, (fun h => by cases h), (fun h => by cases h)⟩
  · refine ⟨(fun h => by cases h), fun _ e => ?_, fun _ e => ?_⟩
    · show (p.t0 && p.h0) = false
      rw [show p.h0 = false from e]; simp
    · show (p.t1 && p.h1) = false
      rw [show p.h1 = false from e]; simp
theorem Pt.fit.in_ {p : Pt} (h : p.fit) (n : Int) (v : Nat) : (p.in_ n v).fit := by
  obtain ⟨h1, h2, h3⟩ := h
  unfold Pt.in_
  repeat' split
  all_goals first
    | exact ⟨h1, h2, h3⟩
    | (refine ⟨fun e => ?_, fun e e2 => ?_, fun e e2 => ?_⟩
       · have := h1 e
         have e' : p.l = false := e
         simp only [e', un_off, this]
         exact ⟨trivial, trivial⟩
       · have e' : p.l = true := e
         first
           | exact h2 e e2
           | (have e3 : decide (128 ≤ v) = false := e2
              show un p.l (decide (128 ≤ v)) _ = false
              rw [e', e3, un_on]; simp)
       · have e' : p.l = true := e
         first
           | exact h3 e e2
           | (have e3 : decide (128 ≤ v) = false := e2
              show un p.l (decide (128 ≤ v)) _ = false
              rw [e', e3, un_on]; simp))
theorem Pt.fit.can {p : Pt} (hp : p.ok) (h : p.can = true) : p.fit := by
  rw [can_eq p hp] at h
  obtain ⟨v0, v1, v2, v3, c, d, l, h0, t0, h1, t1⟩ := p
  cases l <;> cases h0 <;> cases t0 <;> cases h1 <;> cases t1 <;> simp_all <;> constructor <;> simp

/-- Ports of words. -/
def ofP (x0 x1 x2 x3 x4 x5 x6 x7 x8 x9 x10 : Int) : Pt := ⟨x0.toNat, x1.toNat, x2.toNat, x3.toNat, x4.toNat, decide (x5 = 1), decide (x8 = 1), decide (x6 = 1), decide (x9 = 1), decide (x7 = 1), decide (x10 = 1)⟩
theorem oi_of {x : Int} (h : 0 ≤ x ∧ x ≤ 1) : x = oi (decide (x = 1)) := by
  by_cases hx : x = 1
  · rw [decide_eq_true hx]; exact hx
  · rw [decide_eq_false hx]; show x = 0; omega
theorem ofP_ok {x0 x1 x2 x3 x4 x5 x6 x7 x8 x9 x10 : Int} (h : wiB x0 x1 x2 x3 x4 x5 x6 x7 x8 x9 x10 = true) : (ofP x0 x1 x2 x3 x4 x5 x6 x7 x8 x9 x10).ok := by
  obtain ⟨⟨h0, h1, h2, h3, h4⟩, -⟩ := wiB_iff.1 h
  exact ⟨by simp only [ofP]; omega, by simp only [ofP]; omega, by simp only [ofP]; omega, by simp only [ofP]; omega, by simp only [ofP]; omega⟩
theorem ofP_w {x0 x1 x2 x3 x4 x5 x6 x7 x8 x9 x10 : Int} (h : wiB x0 x1 x2 x3 x4 x5 x6 x7 x8 x9 x10 = true) : (x0 = ((ofP x0 x1 x2 x3 x4 x5 x6 x7 x8 x9 x10).v0 : Int) ∧ x1 = ((ofP x0 x1 x2 x3 x4 x5 x6 x7 x8 x9 x10).v1 : Int) ∧ x2 = ((ofP x0 x1 x2 x3 x4 x5 x6 x7 x8 x9 x10).v2 : Int) ∧ x3 = ((ofP x0 x1 x2 x3 x4 x5 x6 x7 x8 x9 x10).v3 : Int) ∧ x4 = ((ofP x0 x1 x2 x3 x4 x5 x6 x7 x8 x9 x10).c : Int)) ∧
    (x5 = oi (ofP x0 x1 x2 x3 x4 x5 x6 x7 x8 x9 x10).d ∧ x6 = oi (ofP x0 x1 x2 x3 x4 x5 x6 x7 x8 x9 x10).h0 ∧ x7 = oi (ofP x0 x1 x2 x3 x4 x5 x6 x7 x8 x9 x10).h1 ∧ x8 = oi (ofP x0 x1 x2 x3 x4 x5 x6 x7 x8 x9 x10).l ∧ x9 = oi (ofP x0 x1 x2 x3 x4 x5 x6 x7 x8 x9 x10).t0 ∧ x10 = oi (ofP x0 x1 x2 x3 x4 x5 x6 x7 x8 x9 x10).t1) := by
  obtain ⟨⟨h0, h1, h2, h3, h4⟩, h5, h6, h7, h8, h9, h10⟩ := wiB_iff.1 h
  exact ⟨⟨(Int.toNat_of_nonneg h0.1).symm, (Int.toNat_of_nonneg h1.1).symm, (Int.toNat_of_nonneg h2.1).symm, (Int.toNat_of_nonneg h3.1).symm, (Int.toNat_of_nonneg h4.1).symm⟩, oi_of h5, oi_of h6, oi_of h7, oi_of h8, oi_of h9, oi_of h10⟩

structure Act where
  kind : Int
  n : Int
  v : Nat
  lines : Nat
  on : Bool
  x0 : Int
  x1 : Int
  x2 : Int
  x3 : Int
  x4 : Int
  x5 : Int
  x6 : Int
  x7 : Int
  x8 : Int
  x9 : Int
  x10 : Int
def Act.row (a : Act) : List Go.Value := [.int .i64 a.kind, .int .i64 a.n, .int .u8 (a.v : Int), .int .u16 (a.lines : Int), .bool a.on, .int .i64 a.x0, .int .i64 a.x1, .int .i64 a.x2, .int .i64 a.x3, .int .i64 a.x4, .int .i64 a.x5, .int .i64 a.x6, .int .i64 a.x7, .int .i64 a.x8, .int .i64 a.x9, .int .i64 a.x10]
structure Act.ok (a : Act) : Prop where
  v : a.v < 256
  l : a.lines < 65536
  n : -9223372036854775808 ≤ a.n ∧ a.n ≤ 9223372036854775807

/-- What the law holds: the ports b, the document's at g, the act at h. -/
structure Lw (W : World) (b g : Nat) (p q : Pt) (w : World) : Prop where
  po : Pb W b p w
  row : Row w g q.rc
  hg : W.heap.size ≤ g
  ne : b ≠ g
section
variable {W w w' : World} {b g : Nat} {p q : Pt}
theorem Lw.below (h : Lw W b g p q w) (hB : Below w.heap.size w w') : Lw W b g p q w' := ⟨h.po.below hB, h.row.below (by simp [Pt.rc]) hB, h.hg, h.ne⟩
theorem Lw.draws (h : Lw W b g p q w) (n : Nat) : Lw W b g p q (w.drewN n) := ⟨h.po.draws n, h.row.draws n, h.hg, h.ne⟩
theorem Lw.alloc (h : Lw W b g p q w) (o : Obj) : Lw W b g p q (w.alloc o) := h.below ((Below.refl _ w).alloc (Nat.le_refl _) o)
theorem Lw.turn {p' : Pt} (h : Lw W b g p q w) (hp : PAt w' b p') (ht : Turn b w w') : Lw W b g p' q w' := ⟨h.po.turn hp ht, h.row.turn (by simp [Pt.rc]) ht (Ne.symm h.ne), h.hg, h.ne⟩
theorem Lw.put {q' : Pt} (h : Lw W b g p q w) (w2 : World) (hB : w2 = (((((((((((w.setCell ⟨g, 0, none⟩ (.int .i64 (q'.v0 : Int))).setCell ⟨g, 1, none⟩ (.int .i64 (q'.v1 : Int))).setCell ⟨g, 2, none⟩ (.int .i64 (q'.v2 : Int))).setCell ⟨g, 3, none⟩ (.int .i64 (q'.v3 : Int))).setCell ⟨g, 4, none⟩ (.int .i64 (q'.c : Int))).setCell ⟨g, 5, none⟩ (.bool q'.d)).setCell ⟨g, 6, none⟩ (.bool q'.h0)).setCell ⟨g, 7, none⟩ (.bool q'.h1)).setCell ⟨g, 8, none⟩ (.bool q'.l)).setCell ⟨g, 9, none⟩ (.bool q'.t0)).setCell ⟨g, 10, none⟩ (.bool q'.t1))) : Lw W b g p q' w2 := by
  subst hB
  have hbg := h.ne
  refine ⟨⟨⟨((((((((((h.po.p.r.far _ hbg).far _ hbg).far _ hbg).far _ hbg).far _ hbg).far _ hbg).far _ hbg).far _ hbg).far _ hbg).far _ hbg).far _ hbg, h.po.p.ok⟩, ?_, h.po.hb⟩, (((((((((((h.row.put 0 _).put 1 _).put 2 _).put 3 _).put 4 _).put 5 _).put 6 _).put 7 _).put 8 _).put 9 _).put 10 _).to rfl, h.hg, h.ne⟩
  exact ((((((((((h.po.old.setCell (p := ⟨g, 0, none⟩) h.hg _).setCell (p := ⟨g, 1, none⟩) h.hg _).setCell (p := ⟨g, 2, none⟩) h.hg _).setCell (p := ⟨g, 3, none⟩) h.hg _).setCell (p := ⟨g, 4, none⟩) h.hg _).setCell (p := ⟨g, 5, none⟩) h.hg _).setCell (p := ⟨g, 6, none⟩) h.hg _).setCell (p := ⟨g, 7, none⟩) h.hg _).setCell (p := ⟨g, 8, none⟩) h.hg _).setCell (p := ⟨g, 9, none⟩) h.hg _).setCell (p := ⟨g, 10, none⟩) h.hg _
end

theorem kind5 {k r : Int} (h : k.tmod 5 = r) : -4 ≤ r ∧ r ≤ 4 := by
  subst h
  rcases Int.le_total 0 k with h | h
  · have := Int.tmod_eq_emod_of_nonneg (b := 5) h; omega
  · have : k.tmod 5 = -((-k).tmod 5) := by rw [Int.neg_tmod]; omega
    have e := Int.tmod_eq_emod_of_nonneg (a := -k) (b := 5) (by omega)
    omega

end Go.Proofs.Ytdnfclhljahghaa.Po
