/- A value that is built of parts; the hot rows of a tag. -/
import Derived.Test.YtcohalkofahphaaDoorCart6
import Derived.Laws.BytesArg
set_option linter.unusedSimpArgs false
set_option linter.unusedVariables false
namespace Go.Proofs.YtcohalkofahphaaDoor.Ca
open Go.RowKit Img

theorem fold_list : ∀ (L : List Value) (A : List Value) (off k : Nat), off + k + L.length ≤ A.length →
    (L.zipIdx k).foldl (fun (cs : Array Value) (x : Value × Nat) => cs.setIfInBounds (off + x.2) x.1) A.toArray = (A.take (off + k) ++ L ++ A.drop (off + k + L.length)).toArray
  | [], A, off, k, h => by simp
  | v :: L, A, off, k, h => by
    simp only [List.length_cons] at h
    rw [List.zipIdx_cons, List.foldl_cons]
    have e : (A.toArray.setIfInBounds (off + k) v) = (A.set (off + k) v).toArray := by simp
    show (L.zipIdx (k + 1)).foldl _ (A.toArray.setIfInBounds (off + k) v) = _
    rw [e, fold_list L (A.set (off + k) v) off (k + 1) (by simp; omega)]
    congr 1
    rw [show off + (k + 1) = off + k + 1 by omega, List.take_add_one, List.take_set_of_le (Nat.le_refl _), List.getElem?_set_self (by omega), List.drop_set_of_lt (by omega)]
    simp only [List.length_cons, Option.toList_some]
    rw [show off + k + 1 + L.length = off + k + (L.length + 1) by omega]
    simp
theorem fill_step {place : Nat → Option (Nat × Nat)} {i off size : Nat} {v : Value} {L A : List Value} (rest : List (Nat × Value)) (hp : place i = some (off, size)) (hv : v.cells = L.toArray) (hs : L.length = size) (hl : off + size ≤ A.length) :
    Instr.fill place A.toArray ((i, v) :: rest) = Instr.fill place (A.take off ++ L ++ A.drop (off + size)).toArray rest := by
  rw [Instr.fill, hp]
  simp only [hv]
  rw [if_neg (by simp; omega)]
  congr 1
  have := fold_list L A off 0 (by omega)
  rw [Nat.add_zero, hs] at this
  rw [← this]
  simp

end Go.Proofs.YtcohalkofahphaaDoor.Ca
