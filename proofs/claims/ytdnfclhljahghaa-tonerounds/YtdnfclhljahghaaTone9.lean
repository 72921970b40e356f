/- An act of the laws of layer 19; Set over what a law holds. (Written by wip/gen/gen_tone9.py.) -/
import Derived.Test.YtdnfclhljahghaaTone8
import Derived.Test.YtdnfclhljahghaaSeenX
namespace Go.Proofs.Ytdnfclhljahghaa.To
open Go.RowKit
set_option linter.unusedVariables false

def ofV (x0 x1 x2 x3 x4 x5 x6 x7 : Int) : Vo := ⟨x0.toNat, x1.toNat, x2.toNat, x3.toNat, x4.toNat, x5.toNat, x6.toNat, decide (x7 = 1)⟩
theorem ofV_ok {x0 x1 x2 x3 x4 x5 x6 x7 : Int} (h : rightV x0 x1 x2 x3 x4 x5 x6 x7 = true) : (ofV x0 x1 x2 x3 x4 x5 x6 x7).ok ∧ (ofV x0 x1 x2 x3 x4 x5 x6 x7).k ≤ 95 := by
  obtain ⟨h0, h1, h2, h3, h4, h5, h6, h7⟩ := of_decide_eq_true h
  exact ⟨⟨by simp only [ofV]; omega, by simp only [ofV]; omega, by simp only [ofV]; omega, by simp only [ofV]; omega, by simp only [ofV]; omega, by simp only [ofV]; omega, by simp only [ofV]; omega⟩, by simp only [ofV]; omega⟩
theorem ofV_w {x0 x1 x2 x3 x4 x5 x6 x7 : Int} (h : rightV x0 x1 x2 x3 x4 x5 x6 x7 = true) : x0 = ((ofV x0 x1 x2 x3 x4 x5 x6 x7).c : Int) ∧ x1 = ((ofV x0 x1 x2 x3 x4 x5 x6 x7).r : Int) ∧ x2 = ((ofV x0 x1 x2 x3 x4 x5 x6 x7).v : Int) ∧ x3 = ((ofV x0 x1 x2 x3 x4 x5 x6 x7).f4 : Int) ∧ x4 = ((ofV x0 x1 x2 x3 x4 x5 x6 x7).f5 : Int) ∧ x5 = ((ofV x0 x1 x2 x3 x4 x5 x6 x7).f9 : Int) ∧ x6 = ((ofV x0 x1 x2 x3 x4 x5 x6 x7).k : Int) ∧ x7 = oi (ofV x0 x1 x2 x3 x4 x5 x6 x7).hi := by
  obtain ⟨h0, h1, h2, h3, h4, h5, h6, h7⟩ := of_decide_eq_true h
  refine ⟨(Int.toNat_of_nonneg h0.1).symm, (Int.toNat_of_nonneg h1.1).symm, (Int.toNat_of_nonneg h2.1).symm, (Int.toNat_of_nonneg h3.1).symm, (Int.toNat_of_nonneg h4.1).symm, (Int.toNat_of_nonneg h5.1).symm, (Int.toNat_of_nonneg h6.1).symm, ?_⟩
  show x7 = oi (decide (x7 = 1))
  by_cases hx : x7 = 1
  · rw [decide_eq_true hx]; exact hx
  · rw [decide_eq_false hx]; show x7 = 0; omega

theorem SetB_yes {W w : World} {b : Nat} {p : Vo} (x0 x1 x2 x3 x4 x5 x6 x7 : Int) (hr : rightV x0 x1 x2 x3 x4 x5 x6 x7 = true) (h : Vb W b p w) : Calls Try.prog 23 #[.pointer (some ⟨b, 0, none⟩), .agg #[.int .i64 x0, .int .i64 x1, .int .i64 x2, .int .i64 x3, .int .i64 x4, .int .i64 x5, .int .i64 x6, .int .i64 x7]] w fun e w' => e = .returned (.int .i64 0) ∧ Vb W b (ofV x0 x1 x2 x3 x4 x5 x6 x7) w' := by
  obtain ⟨e0, e1, e2, e3, e4, e5, e6, e7⟩ := ofV_w hr
  have hk := ofV_ok hr
  generalize ofV x0 x1 x2 x3 x4 x5 x6 x7 = q at *
  subst e0 e1 e2 e3 e4 e5 e6 e7
  refine (Set_yes b p q w h.a hk.1 hk.2).mono ?_
  rintro e w' ⟨rfl, h1, h2⟩
  exact ⟨rfl, h.turn h1 h2 hk.2⟩
theorem SetB_no {W w : World} {b : Nat} {p : Vo} (x0 x1 x2 x3 x4 x5 x6 x7 : Int) (hr : rightV x0 x1 x2 x3 x4 x5 x6 x7 = false) (h : Vb W b p w) : Calls Try.prog 23 #[.pointer (some ⟨b, 0, none⟩), .agg #[.int .i64 x0, .int .i64 x1, .int .i64 x2, .int .i64 x3, .int .i64 x4, .int .i64 x5, .int .i64 x6, .int .i64 x7]] w fun e w' => e = .returned (.int .i64 6) ∧ Vb W b p w' := by
  refine (Set_no b x0 x1 x2 x3 x4 x5 x6 x7 w hr).mono ?_
  rintro e w' ⟨rfl, h1⟩
  exact ⟨rfl, h.below h1⟩
theorem WordsB {W w : World} {b : Nat} {p : Vo} (h : Vb W b p w) : Calls Try.prog 14 #[.pointer (some ⟨b, 0, none⟩)] w fun e w' => e = .returned (.agg p.w.toArray) ∧ Below w.heap.size w w' ∧ Vb W b p w' := by
  refine (Words b p w h.a).mono ?_
  rintro e w' ⟨rfl, h1⟩
  exact ⟨rfl, h1, h.below h1⟩

structure Act where
  kind : Int
  t : Nat
  n : Nat
  x0 : Int
  x1 : Int
  x2 : Int
  x3 : Int
  x4 : Int
  x5 : Int
  x6 : Int
  x7 : Int
def Act.row (a : Act) : List Go.Value := [.int .i64 a.kind, .int .u16 (a.t : Int), .int .u8 (a.n : Int), .int .i64 a.x0, .int .i64 a.x1, .int .i64 a.x2, .int .i64 a.x3, .int .i64 a.x4, .int .i64 a.x5, .int .i64 a.x6, .int .i64 a.x7]
structure Act.ok (a : Act) : Prop where
  t : a.t < 65536
  n : a.n < 256
def Act.right (a : Act) : Bool := rightV a.x0 a.x1 a.x2 a.x3 a.x4 a.x5 a.x6 a.x7

theorem kind7 {k r : Int} (h : k.tmod 7 = r) : -6 ≤ r ∧ r ≤ 6 := by
  subst h
  rcases Int.le_total 0 k with h | h
  · have := Int.tmod_eq_emod_of_nonneg (b := 7) h; omega
  · have : k.tmod 7 = -((-k).tmod 7) := by rw [Int.neg_tmod]; omega
    have e := Int.tmod_eq_emod_of_nonneg (a := -k) (b := 7) (by omega)
    omega

/-- An act's cells. -/
structure Cells (w : World) (b o : Nat) (a : Act) : Prop where
  k : w.cell? ⟨b, o, none⟩ = some (.int .i64 a.kind)
  t : w.cell? ⟨b, o + 1, none⟩ = some (.int .u16 (a.t : Int))
  n : w.cell? ⟨b, o + 2, none⟩ = some (.int .u8 (a.n : Int))
  x0 : w.cell? ⟨b, o + 3, none⟩ = some (.int .i64 a.x0)
  x1 : w.cell? ⟨b, o + 4, none⟩ = some (.int .i64 a.x1)
  x2 : w.cell? ⟨b, o + 5, none⟩ = some (.int .i64 a.x2)
  x3 : w.cell? ⟨b, o + 6, none⟩ = some (.int .i64 a.x3)
  x4 : w.cell? ⟨b, o + 7, none⟩ = some (.int .i64 a.x4)
  x5 : w.cell? ⟨b, o + 8, none⟩ = some (.int .i64 a.x5)
  x6 : w.cell? ⟨b, o + 9, none⟩ = some (.int .i64 a.x6)
  x7 : w.cell? ⟨b, o + 10, none⟩ = some (.int .i64 a.x7)

theorem cells_of {w : World} {ao : Option Addr} {cap b off k : Nat} {A : List Act} {a : Act} (h : SeenX w ao cap b off 11 (A.map Act.row)) (ha : A[k]? = some a) : ao = some ⟨b, off, none⟩ ∧ b < w.heap.size ∧ Cells w b (off + k * 11) a := by
  have hrow : (A.map Act.row)[k]? = some a.row := by rw [List.getElem?_map, ha]; rfl
  have hne : A.map Act.row ≠ [] := fun e => by rw [e] at hrow; cases hrow
  exact ⟨h.at_ hne, h.lt hne, h.cell k _ hrow 0 _ rfl, h.cell k _ hrow 1 _ rfl, h.cell k _ hrow 2 _ rfl, h.cell k _ hrow 3 _ rfl, h.cell k _ hrow 4 _ rfl, h.cell k _ hrow 5 _ rfl, h.cell k _ hrow 6 _ rfl, h.cell k _ hrow 7 _ rfl, h.cell k _ hrow 8 _ rfl, h.cell k _ hrow 9 _ rfl, h.cell k _ hrow 10 _ rfl⟩

theorem level_or (p : Vo) : p.level = 0 ∨ p.level = p.v := by
  unfold Vo.level
  split
  · exact .inr rfl
  · exact .inl rfl

end Go.Proofs.Ytdnfclhljahghaa.To
