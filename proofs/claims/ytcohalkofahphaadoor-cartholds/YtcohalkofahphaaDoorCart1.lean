/- What the small calls of package cart do. -/
import Derived.Test.YtcohalkofahphaaDoorCartM
import Derived.Deep.MidRow
import Derived.ChangeKeysEq
import Derived.Shelf.Abstract
set_option linter.unusedSimpArgs false
set_option linter.unusedVariables false
namespace Go.Proofs.YtcohalkofahphaaDoor.Ca
open Go.RowKit Img

set_option maxHeartbeats 400000 in
theorem num_yes (n f m : Int) (w : World) (h1 : f ≤ n) (h2 : n - f < m) (h3 : 0 ≤ f) (h4 : n ≤ 65535) : Calls Tryd.prog 39 #[.int .u16 n, .int .u16 f, .int .u16 m] w fun e w' => e = .returned (.tuple #[.int .i64 (n - f), .bool true]) ∧ w' = w := by
  have h5 : 0 ≤ n - f := by omega
  have h6 : n - f ≤ 65535 := by omega
  have hw : IntKind.i64.wrap (n - f) = n - f := by rw [IntKind.wrap_i64]; omega
  have hw2 : IntKind.u16.wrap (n - f) = n - f := by rw [IntKind.wrap_u16]; omega
  go_enter Tryd.func39, Tryd.ntmps39
  go_wp2
  go_returns
  exact ⟨rfl, rfl⟩

set_option maxHeartbeats 400000 in
theorem num_no (n f m : Int) (w : World) (h : ¬ (f ≤ n ∧ n - f < m)) (h3 : 0 ≤ f) (h4 : n ≤ 65535) : Calls Tryd.prog 39 #[.int .u16 n, .int .u16 f, .int .u16 m] w fun e w' => e = .returned (.tuple #[.int .i64 0, .bool false]) ∧ w' = w := by
  by_cases h1 : n < f
  · clear h
    go_enter Tryd.func39, Tryd.ntmps39
    go_wp2
    go_returns
    exact ⟨rfl, rfl⟩
  · have h2 : m ≤ n - f := by omega
    have h5 : 0 ≤ n - f := by omega
    have hw2 : IntKind.u16.wrap (n - f) = n - f := by rw [IntKind.wrap_u16]; omega
    clear h
    go_enter Tryd.func39, Tryd.ntmps39
    go_wp2
    go_returns
    exact ⟨rfl, rfl⟩

set_option maxHeartbeats 400000 in
theorem show_ (b k : Nat) (v : Int) (c : Ct) (w : World) (hk : k < 4) (h : CAt w b c) : Calls Tryd.prog 41 #[.pointer (some ⟨b, 0, none⟩), .int .i64 (k : Int), .int .i64 v] w fun e w' => e = .returned (.tuple #[]) ∧ CAt w' b (c.put k v) ∧ Turn b w w' := by
  have H : Hid (CAt w b c) := h
  have hc := h.shown hk
  have hf := h.fz
  have k0 : (0 : Int) ≤ (k : Int) := by omega
  have k1 : (k : Int) < 4 := by omega
  clear h
  go_enter Tryd.func41, Tryd.ntmps41
  go_wp2
  go_returns
  exact ⟨rfl, H.out.shows hk v, (Turn.refl b w).set _ _⟩

set_option maxHeartbeats 1000000 in
theorem place_ (b : Nat) (o k s : Nat) (c : Ct) (w : World) (h : CAt w b c) (hs : c.size = (s : Int)) (h1 : 1 ≤ s) (h2 : s ≤ 4096) (hk : o / s = k) (hk4 : k < 4) (ho : o < 4096) (hb0 : 0 ≤ c.at k) (hb1 : c.at k * c.size ≤ 1000000) : Calls Tryd.prog 40 #[.pointer (some ⟨b, 0, none⟩), .int .i64 (o : Int)] w fun e w' => e = .returned (.int .i64 (place c (o : Int))) ∧ ∃ q, w' = w.drewN q := by
  have HP : Hid (place c (o : Int) = c.at k * (s : Int) + ((o % s : Nat) : Int)) := (by
    unfold place
    rw [hs, show ((o : Int) / (s : Int)).toNat = k by rw [← hk]; rfl]
    rfl : place c (o : Int) = c.at k * (s : Int) + ((o % s : Nat) : Int))
  have hc := h.shown hk4
  have hz : w.cell? ⟨b, 2, none⟩ = some (.int .i64 (s : Int)) := by rw [h.cell 2]; show some (Value.int .i64 c.size) = _; rw [hs]
  have s0 : ¬ (s : Int) = 0 := by omega
  have k0 : (0 : Int) ≤ (k : Int) := by omega
  have k1 : (k : Int) < 4 := by omega
  have hq : (o : Int) / (s : Int) = (k : Int) := by rw [← hk]; rfl
  have hr : (o : Int) % (s : Int) = ((o % s : Nat) : Int) := rfl
  have hr2 : o % s < 4096 := Nat.lt_of_lt_of_le (Nat.mod_lt _ (by omega)) h2
  generalize hx : o % s = x at *
  rw [hs] at hb1
  generalize hv : c.at k = v at *
  have hm0 : 0 ≤ v * (s : Int) := Int.mul_nonneg hb0 (by omega)
  clear h hk hx hv hs
  go_enter Tryd.func40, Tryd.ntmps40
  go_wp2
  go_quiet (fail)
  go_wp2
  go_returns
  exact ⟨ret_int (HP.out.symm), _, rfl⟩

end Go.Proofs.YtcohalkofahphaaDoor.Ca
