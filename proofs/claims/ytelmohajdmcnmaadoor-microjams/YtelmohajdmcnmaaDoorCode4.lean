/- A cell of the table, its name and its mode. -/
import Derived.Test.YtelmohajdmcnmaaDoorCode3
import Derived.Shelf.Abstract
namespace Go.Proofs.YtelmohajdmcnmaaDoor.Co
open Go.RowKit

theorem ret_str {s t : ByteArray} (h : s = t) : Ending.returned (.string s) = .returned (.string t) := by rw [h]

set_option maxRecDepth 100000 in
set_option maxHeartbeats 1000000 in
theorem cellAt (row : ByteArray) (c : Nat) (ci : Int) (w : World) (hr : row.size = 127) (c1 : c ≤ 15) (hc : ci = (c : Int)) : Calls Tryd.prog 70 #[.string row, .int .i64 ci] w fun e w' => e = .returned (.string (row.extract (c * 8) (c * 8 + 7))) ∧ w' = w := by
  subst hc
  have hsl := fun w => run_slice_string (P := Tryd.prog) w 9 row .i64 .i64 ((c : Int) * 8) ((c : Int) * 8 + 4 + 3) Tryd.underlying9 (by omega) (by omega) (by omega)
  go_enter Tryd.func70, Tryd.ntmps70
  go_wp2
  go_ret
  exact ⟨rfl, rfl⟩

theorem cname (c : ByteArray) (w : World) (hr : c.size = 7) : Calls Tryd.prog 41 #[.string c] w fun e w' => e = .returned (.string (c.extract 0 3)) ∧ w' = w := by
  go_enter Tryd.func41, Tryd.ntmps41
  go_wp2
  go_ret
  exact ⟨rfl, rfl⟩

theorem run_index_array {P : Program} (w : World) (t e : TypeId) (n : Nat) (cs : Array Go.Value) (k : IntKind) (i : Nat) (v : Go.Value) (h : P.underlying t = some (.array n e)) (hs : ∀ w, (sizeOf e).run P w = .ok 1 w) (ha : ∀ w, (isAgg e).run P w = .ok false w) (hi : i < n) (hv : cs[i]? = some v) :
    (Instr.index t (.agg cs) (.int k (i : Int))).run P w = .ok v w := by
  have h1 : (0 : Int) ≤ (i : Int) ∧ (i : Int) < (n : Int) := by omega
  simp [Instr.index, run_underlying h, asIntOf, h1, hs, ha, hi, hv, go_sem]
theorem sizeStr (w : World) : (sizeOf 9).run Tryd.prog w = .ok 1 w := by
  have h : (Tryd.prog.info? 9).map (·.size) = some 1 := by kernel_rfl
  obtain ⟨i, h1, h2⟩ := Option.map_eq_some_iff.1 h
  rw [run_sizeOf w h1, show Tryd.prog.cellsOf 9 = 1 by kernel_rfl]
theorem aggStr (w : World) : (isAgg 9).run Tryd.prog w = .ok false w := run_isAgg_plain Tryd.underlying9 rfl w

theorem rowsV_at (i : Nat) (hi : i < 16) : rowsV[i]? = some (.string (rowB i)) := by
  rcases (show i = 0 ∨ i = 1 ∨ i = 2 ∨ i = 3 ∨ i = 4 ∨ i = 5 ∨ i = 6 ∨ i = 7 ∨ i = 8 ∨ i = 9 ∨ i = 10 ∨ i = 11 ∨ i = 12 ∨ i = 13 ∨ i = 14 ∨ i = 15 by omega) with rfl | rfl | rfl | rfl | rfl | rfl | rfl | rfl | rfl | rfl | rfl | rfl | rfl | rfl | rfl | rfl
  all_goals rfl
theorem rowB_size : ∀ r, r < 16 → (rowB r).size = 127 := by decide +kernel

/-- What the rows say of a code. -/
def cellB (op : Nat) : ByteArray := (rowB (op / 16)).extract (op % 16 * 8) (op % 16 * 8 + 7)
theorem cellB_size (op : Nat) (h : op < 256) : (cellB op).size = 7 := by
  unfold cellB
  rw [ByteArray.size_extract, rowB_size _ (by omega)]
  omega

theorem atRow (w : World) (i : Nat) (j : Int) (hi : i < 16) (k : IntKind) (hj : j = (i : Int)) : (Instr.index 94 (.agg rowsV) (.int k j)).run Tryd.prog w = .ok (.string (rowB i)) w := by
  subst hj
  exact
  run_index_array w 94 9 16 _ k i _ Tryd.underlying94 sizeStr aggStr hi (rowsV_at i hi)

set_option maxRecDepth 100000 in
set_option maxHeartbeats 1000000 in
theorem cellOf (op : Nat) (w : World) (h : op < 256) : Calls Tryd.prog 40 #[.int .u8 (op : Int)] w fun e w' => e = .returned (.string (cellB op)) ∧ Below w.heap.size w w' := by
  have hi := fun w => atRow w (op / 16) ((op : Int) / 16) (by omega) .u8 (by omega)
  go_enter Tryd.func40, Tryd.ntmps40
  go_wp2_with (first
    | (go_at_call 71; refine (rows _).mono ?_; rintro e w2 ⟨rfl, hB⟩)
    | (go_at_call 70; refine (cellAt _ (op % 16) _ _ (rowB_size _ (by omega)) (by omega) (by omega)).mono ?_; rintro e w' ⟨rfl, rfl⟩))
  go_ret
  exact ⟨rfl, hB⟩

end Go.Proofs.YtelmohajdmcnmaaDoor.Co
