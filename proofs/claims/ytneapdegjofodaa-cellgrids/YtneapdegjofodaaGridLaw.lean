/- CellGrids: what is painted; the sizes that are not walked through. -/
import Derived.Test.YtneapdegjofodaaSeenOwn
import Derived.Test.YtneapdegjofodaaGrid2
import Derived.Deep.RegionWith
namespace Go.Proofs.Ytneapdegjofodaa.cellGrids
open Go.RowKit

/-! ### What is painted, and what is wanted -/

def inside (W H : Nat) (d : Int × Int × Int) : Prop := 0 ≤ d.1 ∧ d.1 < W ∧ 0 ≤ d.2.1 ∧ d.2.1 < H
instance (W H : Nat) (d : Int × Int × Int) : Decidable (inside W H d) := by unfold inside; infer_instance
def paint (W H : Nat) (f : List Int) (d : Int × Int × Int) : List Int := if inside W H d then f.set (d.2.1.toNat * W + d.1.toNat) d.2.2 else f
def paints (W H : Nat) (D : List (Int × Int × Int)) : List Int := D.foldl (paint W H) (List.replicate (H * W) 7)
def wants (x y : Int) (a : Int) (d : Int × Int × Int) : Int := if d.1 = x ∧ d.2.1 = y then d.2.2 else a
def want (x y : Int) (D : List (Int × Int × Int)) : Int := D.foldl (wants x y) 7

theorem spot_eq {W x y x' y' : Nat} (hx : x < W) (hx' : x' < W) (h : y' * W + x' = y * W + x) : x' = x ∧ y' = y := by
  have hW : 0 < W := by omega
  have h1 : (y * W + x) % W = x := by rw [Nat.add_comm, Nat.add_mul_mod_self_right, Nat.mod_eq_of_lt hx]
  have h2 : (y' * W + x') % W = x' := by rw [Nat.add_comm, Nat.add_mul_mod_self_right, Nat.mod_eq_of_lt hx']
  have hxx : x' = x := by rw [← h1, ← h2, h]
  subst hxx
  exact ⟨rfl, Nat.eq_of_mul_eq_mul_right hW (Nat.add_right_cancel h)⟩

theorem paint_at {W H x y : Nat} {f : List Int} {a : Int} (hx : x < W) (hy : y < H) (h : f[y * W + x]? = some a) (d : Int × Int × Int) : (paint W H f d)[y * W + x]? = some (wants x y a d) := by
  unfold paint wants
  by_cases hi : inside W H d
  · rw [if_pos hi]
    obtain ⟨dx, dy, dv⟩ := d
    obtain ⟨a1, a2, a3, a4⟩ := hi
    simp only at a1 a2 a3 a4
    obtain ⟨p, rfl⟩ := Int.eq_ofNat_of_zero_le a1
    obtain ⟨q, rfl⟩ := Int.eq_ofNat_of_zero_le a3
    simp only [Int.toNat_natCast]
    by_cases he : ((p : Int) = x ∧ (q : Int) = y)
    · have e1 : p = x := by omega
      have e2 : q = y := by omega
      subst e1; subst e2
      rw [if_pos he, List.getElem?_set_self (List.getElem?_eq_some_iff.1 h).1]
    · rw [if_neg he, List.getElem?_set_ne, h]
      intro e
      have := spot_eq hx (by omega) e
      omega
  · rw [if_neg hi, if_neg, h]
    rintro ⟨h1, h2⟩
    apply hi
    unfold inside
    rw [h1, h2]
    omega

theorem paints_at {W H x y : Nat} (hx : x < W) (hy : y < H) (D : List (Int × Int × Int)) : (paints W H D)[y * W + x]? = some (want x y D) := by
  have gen : ∀ (D : List (Int × Int × Int)) (f : List Int) (a : Int), f[y * W + x]? = some a → (D.foldl (paint W H) f)[y * W + x]? = some (D.foldl (wants x y) a) := by
    intro D
    induction D with
    | nil => intro f a h; exact h
    | cons d D ih => intro f a h; exact ih _ _ (paint_at hx hy h d)
  exact gen D _ _ (by rw [List.getElem?_replicate, if_pos (Grid.spot_lt hx hy)])

theorem paints_take {W H k : Nat} {D : List (Int × Int × Int)} {d : Int × Int × Int} (h : D[k]? = some d) : paints W H (D.take (k + 1)) = paint W H (paints W H (D.take k)) d := by
  rw [List.take_add_one, h]
  unfold paints
  rw [List.foldl_append]; rfl
theorem want_take {x y : Int} {k : Nat} {D : List (Int × Int × Int)} {d : Int × Int × Int} (h : D[k]? = some d) : want x y (D.take (k + 1)) = wants x y (want x y (D.take k)) d := by
  rw [List.take_add_one, h]
  unfold want
  rw [List.foldl_append]; rfl

end Go.Proofs.Ytneapdegjofodaa.cellGrids
