/- Two equal arrays of numbers are equal. -/
import Derived.WalkKit
import Derived.ChangeKeysEq
import Derived.Laws.StructEq
namespace Go.Proofs.Ytdnfclhljahghaa

theorem eqItems_self {P : Program} (d : Nat) {e : TypeId} (he : P.plainKey e = true) {k' : IntKind} (hu : P.underlying e = some (.int k')) (xs : Array Value) (c : Nat) (w : World) : ∀ is : List Nat, (∀ j ∈ is, ∃ k a, xs[j * c]? = some (.int k a)) → (Op.eqItems (d + 1) e c xs xs is).run P w = .ok true w
  | [], _ => by simp [Op.eqItems]
  | i :: is, h => by
    obtain ⟨k, a, hx⟩ := h i (by simp)
    have r := eqItems_self d he hu xs c w is (fun j hj => h j (by simp [hj]))
    simp only [Op.eqItems, Sem.run_bind, run_part_plain w he hx, run_equalIn_int w d e k k' a a hu, Result.andThen_ok]
    simpa using r

theorem equal_self {P : Program} {t e : TypeId} {n : Nat} {k' : IntKind} (hu : P.underlying t = some (.array n e)) (hc : P.cellsOf e = 1) (he : P.plainKey e = true) (hue : P.underlying e = some (.int k')) (xs : Array Value) (hx : ∀ j, j < n → ∃ k a, xs[j]? = some (.int k a)) (w : World) :
    (Op.equalIn 10000 t (.agg xs) (.agg xs)).run P w = .ok true w := by
  obtain ⟨i, hi⟩ := info_of_underlying hue
  rw [run_equalIn_array w 9999 xs xs hu hi, hc]
  exact eqItems_self 9998 he hue xs 1 w _ (fun j hj => by rw [Nat.mul_one]; exact hx j (List.mem_range.1 hj))

end Go.Proofs.Ytdnfclhljahghaa
