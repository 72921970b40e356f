/- Registers by value, and bytes, as they come in. -/
import Derived.Test.YtelmohajdmcnmaaDoorFrame
import Derived.Test.YtelmohajdmcnmaaDoorMiM
import Derived.ChangeMaps5
namespace Go.Proofs.YtelmohajdmcnmaaDoor.Mi
open Go.ChangeShapes Go.WideShapes Go.ChangeAt Go.RowKit
set_option linter.unusedVariables false
set_option linter.unusedSectionVars false

/-- Bytes that a slice shows. -/
structure Byt (w : World) (ao : Option Addr) (b off : Nat) (L : List Int) : Prop where
  at_ : L ≠ [] → ao = some ⟨b, off, none⟩
  cell : ∀ (i : Nat) (x : Int), L[i]? = some x → w.cell? ⟨b, off + i, none⟩ = some (.int .u8 x)
  wf : ∀ x ∈ L, 0 ≤ x ∧ x ≤ 255
theorem Byt.lt {w : World} {ao : Option Addr} {b off : Nat} {L : List Int} (h : Byt w ao b off L) (hn : L ≠ []) : b < w.heap.size := by
  cases L with
  | nil => exact absurd rfl hn
  | cons x xs => exact Ex.lt_of_cell (h.cell 0 x rfl)

section
variable {H : Type} {enc : TypeId × Value → H} {W : World} {r : Reach} {b0 base : Nat} {spare : Nat → Bool} {held : Bool} {v : Value} {d : DataW H} {p : List MemPlace}

set_option maxRecDepth 100000 in
theorem open_bytes (hv : Value.okWide Tryd.prog W r b0 25 v) (h : DataW.Trod enc Tryd.prog W base spare held 25 v d p) :
    ∃ ao n cap b off, ∃ L : List Int, v = .slice ao n cap ∧ Byt W ao b off L ∧ n = L.length ∧ n ≤ cap ∧ (ao = none → n = 0 ∧ cap = 0) := by
  have ht := Tryd.underlying25
  have he := Tryd.underlying5
  obtain ⟨a0, len, cap, rfl⟩ := okWide_slice ht hv
  obtain ⟨fuel, hf⟩ := h
  rcases open_ints ht he (by kernel_rfl) hf with ⟨hcs, _⟩ | ⟨a, len', cap', zs, hcs, _, hl, hm, hz, _, hcell, hwf⟩
  · simp [Value.cells] at hcs
    obtain ⟨rfl, rfl, rfl⟩ := hcs
    exact ⟨none, 0, 0, 0, 0, [], rfl, ⟨fun e => absurd rfl e, fun i x e => by simp at e, fun x e => by cases e⟩, rfl, Nat.le_refl _, fun _ => ⟨rfl, rfl⟩⟩
  · simp [Value.cells] at hcs
    obtain ⟨rfl, rfl, rfl⟩ := hcs
    have hlz : len ≤ zs.length := by rw [hz]; split <;> omega
    by_cases h0 : len = 0
    · subst h0
      exact ⟨some a, 0, cap, 0, 0, [], rfl, ⟨fun e => absurd rfl e, fun i x e => by simp at e, fun x e => by cases e⟩, rfl, Nat.zero_le _, fun e => by cases e⟩
    · obtain ⟨b, off, rfl, hcc⟩ := ints_at hcell (by omega)
      refine ⟨_, len, cap, b, off, zs.take len, rfl, ⟨fun _ => rfl, fun i x hi => ?_, fun x hx => bounds_u8 (hwf x (List.mem_of_mem_take hx))⟩, by rw [List.length_take]; omega, hl, fun e => by cases e⟩
      have hi' := (List.getElem?_eq_some_iff.1 hi).1
      rw [List.length_take] at hi'
      rw [List.getElem?_take_of_lt (by omega)] at hi
      rw [hcc i (by omega)]
      simp [hi]

set_option maxRecDepth 100000 in
theorem open_regs (hv : Value.okWide Tryd.prog W r b0 24 v) (h : DataW.Trod enc Tryd.prog W base spare held 24 v d p) :
    ∃ q : Ex.Rg, v = .agg #[.int .u8 (q.a : Int), .int .u8 (q.x : Int), .int .u8 (q.y : Int), .int .u8 (q.s : Int), .int .u8 (q.p : Int), .int .u16 (q.pc : Int)] ∧ q.ok := by
  obtain ⟨cs, rfl, hsz⟩ := okWide_struct Tryd.underlying24 hv
  rw [show Tryd.prog.cellsOf 24 = 6 by kernel_rfl] at hsz
  obtain ⟨l⟩ := cs
  match l, hsz with
  | [c0, c1, c2, c3, c4, c5], _ =>
    obtain ⟨fuel, hf⟩ := h
    obtain ⟨xs, m, _, _, _, hl, hx⟩ := DataW.trod_struct Tryd.underlying24 hf
    match xs, hl with
    | [y0, y1, y2, y3, y4, y5], _ =>
      have z5 : Tryd.prog.cellsOf 5 = 1 := by kernel_rfl
      have z22 : Tryd.prog.cellsOf 22 = 1 := by kernel_rfl
      have g0 := hx 0 _ rfl
      have g1 := hx 1 _ rfl
      have g2 := hx 2 _ rfl
      have g3 := hx 3 _ rfl
      have g4 := hx 4 _ rfl
      have g5 := hx 5 _ rfl
      simp [Value.cells, z5, z22] at g0 g1 g2 g3 g4 g5
      obtain ⟨n0, e0, _, w0⟩ := DataW.trod_int Tryd.underlying5 g0
      obtain ⟨n1, e1, _, w1⟩ := DataW.trod_int Tryd.underlying5 g1
      obtain ⟨n2, e2, _, w2⟩ := DataW.trod_int Tryd.underlying5 g2
      obtain ⟨n3, e3, _, w3⟩ := DataW.trod_int Tryd.underlying5 g3
      obtain ⟨n4, e4, _, w4⟩ := DataW.trod_int Tryd.underlying5 g4
      obtain ⟨n5, e5, _, w5⟩ := DataW.trod_int Tryd.underlying22 g5
      simp at e0 e1 e2 e3 e4 e5
      subst e0 e1 e2 e3 e4 e5
      obtain ⟨x0, x1⟩ := bounds_u8 w0
      obtain ⟨y0, y1⟩ := bounds_u8 w1
      obtain ⟨z0, z1⟩ := bounds_u8 w2
      obtain ⟨u0, u1⟩ := bounds_u8 w3
      obtain ⟨p0, p1⟩ := bounds_u8 w4
      obtain ⟨k0, k1⟩ := bounds_u16 w5
      obtain ⟨a, rfl⟩ := Int.eq_ofNat_of_zero_le x0
      obtain ⟨x, rfl⟩ := Int.eq_ofNat_of_zero_le y0
      obtain ⟨y, rfl⟩ := Int.eq_ofNat_of_zero_le z0
      obtain ⟨s, rfl⟩ := Int.eq_ofNat_of_zero_le u0
      obtain ⟨q, rfl⟩ := Int.eq_ofNat_of_zero_le p0
      obtain ⟨c, rfl⟩ := Int.eq_ofNat_of_zero_le k0
      exact ⟨⟨a, x, y, s, q, c⟩, rfl, ⟨(by omega : a < 256), (by omega : x < 256), (by omega : y < 256), (by omega : s < 256), (by omega : q < 256), (by omega : c < 65536)⟩⟩
end

end Go.Proofs.YtelmohajdmcnmaaDoor.Mi
