/- A play, an access, as they come in. -/
import Derived.Test.YtcohalkofahphaaDoorPlayB
import Derived.Test.YtcohalkofahphaaDoorRowAcc
import Derived.Test.YtcohalkofahphaaDoorSeenY
set_option linter.unusedSimpArgs false
set_option linter.unusedVariables false
namespace Go.Proofs.YtcohalkofahphaaDoor.Ca
open Go.ChangeShapes Go.WideShapes Go.ChangeAt Go.RowKit Go.Deep Img

section
variable {H : Type} {enc : TypeId × Value → H} {w : World} {base : Nat} {spare : Nat → Bool} {held : Bool} {fuel : Nat} {x : DataW H × List MemPlace}

theorem acc_of {r : List Value} (h : DataW.trod enc Tryd.prog w base spare held fuel 51 r = some x) : ∃ a : Acc, r = a.row ∧ a.ok := by
  obtain ⟨n0, n1, n2, e, w0, w1, _⟩ := RowAcc.of h
  have b0 := bounds_u16 w0
  have b1 := bounds_u8 w1
  refine ⟨⟨n0.toNat, n1.toNat, n2⟩, ?_, by simp only; omega, by simp only; omega⟩
  rw [e]
  simp only [Acc.row]
  rw [Int.toNat_of_nonneg b0.1, Int.toNat_of_nonneg b1.1]

set_option maxRecDepth 100000 in
theorem ram_of {r : List Value} (h : DataW.trod enc Tryd.prog w base spare held fuel 35 r = some x) : ∃ a : Ram, r = bytes a.l := by
  obtain ⟨xs, n, rfl, rfl, hl, hlen, hf⟩ := DataW.trod_array Tryd.underlying35 h
  rw [show Tryd.prog.cellsOf 35 = 128 by kernel_rfl] at hl
  have one : ∀ i, i < 128 → ∃ k : Int, r[i]? = some (.int .u8 k) := by
    intro i hi
    have g := hf i hi
    rw [show Tryd.prog.cellsOf 5 = 1 by kernel_rfl, Nat.mul_one, List.getElem?_eq_getElem (by omega)] at g
    obtain ⟨k, e, _, _⟩ := DataW.trod_int Tryd.underlying5 g
    refine ⟨k, ?_⟩
    have := congrArg (fun l : List Value => l[0]?) e
    simpa [List.getElem?_take, List.getElem?_drop] using this
  obtain ⟨f, hq⟩ := choose_lt one
  refine ⟨⟨(List.range 128).map f, by simp⟩, List.ext_getElem? fun i => ?_⟩
  by_cases hi : i < 128
  · rw [hq i hi]
    simp [bytes, hi]
  · rw [List.getElem?_eq_none (by omega), List.getElem?_eq_none (by simp [bytes]; omega)]

end

set_option maxRecDepth 100000 in
theorem open_play {H : Type} {enc : TypeId × Value → H} {W : World} {r : Reach} {b0 base : Nat} {spare : Nat → Bool} {held : Bool} {v : Value} {d : DataW H} {pl : List MemPlace}
    (hv : Value.okWide Tryd.prog W r b0 38 v) (h : DataW.Trod enc Tryd.prog W base spare held 38 v d pl) :
    ∃ (p : Pl) (A : List Acc) (b off : Nat), v = .agg p.cells.toArray ∧ p.seed < 256 ∧ (∀ x ∈ A, x.ok) ∧ SeenX W p.ao p.cap b off 3 (A.map Acc.row) ∧ p.n = A.length := by
  obtain ⟨cs, rfl, hsz⟩ := okWide_struct Tryd.underlying38 hv
  rw [show Tryd.prog.cellsOf 38 = 132 by kernel_rfl] at hsz
  obtain ⟨l⟩ := cs
  obtain ⟨fuel, hf⟩ := h
  have hf' : DataW.trod enc Tryd.prog W base spare held fuel 38 l = some (d, pl) := hf
  obtain ⟨xs, m, _, _, _, hl, hx⟩ := DataW.trod_struct Tryd.underlying38 hf'
  have hll : l.length = 132 := hsz
  match xs, hl with
  | [y0, y1, y2, y3, y4], _ =>
    have g0 : DataW.trod enc Tryd.prog W base spare held m 9 ((l.drop 0).take (Tryd.prog.cellsOf 9)) = some y0 := hx 0 _ rfl
    have g1 : DataW.trod enc Tryd.prog W base spare held m 3 ((l.drop 1).take (Tryd.prog.cellsOf 3)) = some y1 := hx 1 _ rfl
    have g2 : DataW.trod enc Tryd.prog W base spare held m 5 ((l.drop 2).take (Tryd.prog.cellsOf 5)) = some y2 := hx 2 _ rfl
    have g3 : DataW.trod enc Tryd.prog W base spare held m 35 ((l.drop 3).take (Tryd.prog.cellsOf 35)) = some y3 := hx 3 _ rfl
    have g4 : DataW.trod enc Tryd.prog W base spare held m 36 ((l.drop 131).take (Tryd.prog.cellsOf 36)) = some y4 := hx 4 _ rfl
    rw [show Tryd.prog.cellsOf 9 = 1 by kernel_rfl] at g0
    rw [show Tryd.prog.cellsOf 3 = 1 by kernel_rfl] at g1
    rw [show Tryd.prog.cellsOf 5 = 1 by kernel_rfl] at g2
    rw [show Tryd.prog.cellsOf 35 = 128 by kernel_rfl] at g3
    rw [show Tryd.prog.cellsOf 36 = 1 by kernel_rfl] at g4
    obtain ⟨tag, e0, _, _⟩ := DataW.trod_string Tryd.underlying9 g0
    obtain ⟨len, e1, _, _⟩ := DataW.trod_int Tryd.underlying3 g1
    obtain ⟨sd, e2, _, ws⟩ := DataW.trod_int Tryd.underlying5 g2
    obtain ⟨ram, e3⟩ := ram_of g3
    have bs := bounds_u8 ws
    obtain ⟨seed, rfl⟩ := Int.eq_ofNat_of_zero_le bs.1
    have hsl : ∃ a len cap, (l.drop 131).take 1 = [.slice a len cap] := by
      rcases open_slice Tryd.underlying36 g4 with ⟨hcs, _⟩ | ⟨a, ln, cap, _, _, _, _, hcs, _⟩
      · exact ⟨none, 0, 0, hcs⟩
      · exact ⟨some a, ln, cap, hcs⟩
    obtain ⟨ao, n, cap, e4⟩ := hsl
    rw [e4] at g4
    have hrest := rows_of (P := Tryd.prog) (W := W) 3 Tryd.underlying36 (by kernel_rfl) (by decide) g4
    obtain ⟨b, off, R, hS, hn, hr⟩ := hrest
    obtain ⟨A, rfl, hA⟩ := map_of (f := Acc.row) (p := Acc.ok) (L := R) (fun r hr' => by obtain ⟨_, _, _, ht⟩ := hr r hr'; exact acc_of ht)
    refine ⟨⟨tag, len, seed, ram, ao, n, cap⟩, A, b, off, ?_, by simp only; omega, hA, hS, by rw [hn, List.length_map]⟩
    congr 2
    show l = _
    have key : l = (l.drop 0).take 1 ++ ((l.drop 1).take 1 ++ ((l.drop 2).take 1 ++ ((l.drop 3).take 128 ++ (l.drop 131).take 1))) := by
      have h5 : (l.drop 131).take 1 = l.drop 131 := List.take_of_length_le (by simp; omega)
      have h4 : (l.drop 3).take 128 ++ l.drop 131 = l.drop 3 := by
        have := List.take_append_drop 128 (l.drop 3)
        rwa [List.drop_drop] at this
      have h3 : (l.drop 2).take 1 ++ l.drop 3 = l.drop 2 := by
        have := List.take_append_drop 1 (l.drop 2)
        rwa [List.drop_drop] at this
      have h2 : (l.drop 1).take 1 ++ l.drop 2 = l.drop 1 := by
        have := List.take_append_drop 1 (l.drop 1)
        rwa [List.drop_drop] at this
      rw [h5, h4, h3, h2, List.drop_zero]
      exact (List.take_append_drop 1 l).symm
    rw [key, e0, e1, e2, e3, e4]
    rfl

/-- A play of nothing. -/
def pl0 : Pl := ⟨ByteArray.empty, 0, 0, ⟨zer, by simp [zer]⟩, none, 0, 0⟩

end Go.Proofs.YtcohalkofahphaaDoor.Ca
