/- What the calls of the delay line do that write it: one contract a function. -/
import Derived.Test.YtienmoannnhhmaaDoorSpr1
import Derived.LoopN
set_option linter.unusedVariables false
namespace Go.Proofs.YtienmoannnhhmaaDoor.Sp
open Go.RowKit

/-- The line X lies at block b from cell off on. -/
structure DlAt (w : World) (b off X : Nat) : Prop where
  c : ∀ i, i < 4 → w.cell? ⟨b, off + i, none⟩ = some (.int .u64 (wd X i : Int))
  fz : ∀ i, w.frozen? ⟨b, i, none⟩ = false
  lt : X < 2 ^ 256

section
variable {w w' : World} {b off X : Nat}
theorem DlAt.blt (h : DlAt w b off X) : b < w.heap.size := lt_of_cell (h.c 0 (by decide))
theorem DlAt.kept (h : DlAt w b off X) (hb : w'.heap[b]? = w.heap[b]?) : DlAt w' b off X :=
  ⟨fun i hi => (World.cell?_of_block (w := w) hb).trans (h.c i hi), fun i => (World.frozen?_of_block (w := w) hb).trans (h.fz i), h.lt⟩
theorem DlAt.below (h : DlAt w b off X) (hb : Below w.heap.size w w') : DlAt w' b off X := h.kept (hb.block _ h.blt)
end

theorem wd_step0 (X : Nat) (s : Bool) : wd (stp X s) 0 = 2 * wd X 0 % 18446744073709551616 + s.toNat := by
  unfold wd stp
  cases s <;> simp <;> omega
theorem wd_step (X : Nat) (s : Bool) (i : Nat) (hi : i < 3) : wd (stp X s) (i + 1) = 2 * wd X (i + 1) % 18446744073709551616 + wd X i / 9223372036854775808 := by
  rcases (show i = 0 ∨ i = 1 ∨ i = 2 by omega) with rfl | rfl | rfl
  all_goals
    unfold wd stp
    cases s <;> simp <;> omega
theorem shl_or (a c : Nat) (ha : a < 18446744073709551616) (hc : c ≤ 1) : bits .or .u64 (IntKind.u64.wrap ((a : Int) * 2)) (c : Int) = ((2 * a % 18446744073709551616 + c : Nat) : Int) := by
  rw [IntKind.wrap_u64, show ((a : Int) * 2 % 18446744073709551616) = ((2 * a % 18446744073709551616 : Nat) : Int) by omega]
  rw [bits_or_u64_nat _ _ (Nat.mod_lt _ (by decide)) (by omega)]
  congr 1
  rw [show 2 * a % 18446744073709551616 = 2 ^ 1 * (a % 9223372036854775808) by omega]
  rw [← Nat.two_pow_add_eq_or_of_lt (i := 1) (by omega)]

theorem _root_.Go.Proofs.YtienmoannnhhmaaDoor.Touch.drewsN {b lo hi : Nat} {w w' : World} (h : Touch b lo hi w w') (q : Nat) : Touch b lo hi w (w'.drewN q) := ⟨h.os, h.tape, h.output, h.size, h.block, h.cell, h.fz⟩

/-- What comes in at word k. -/
def cy (X : Nat) (s : Bool) : Nat → Nat
  | 0 => s.toNat
  | k + 1 => wd X k / 9223372036854775808
theorem cy_le (X : Nat) (s : Bool) : ∀ k, cy X s k ≤ 1
  | 0 => by cases s <;> exact Nat.le_of_ble_eq_true rfl
  | k + 1 => by have := wd_lt X k; show wd X k / 9223372036854775808 ≤ 1; omega
theorem wd_stp (X : Nat) (s : Bool) : ∀ k, k < 4 → wd (stp X s) k = 2 * wd X k % 18446744073709551616 + cy X s k
  | 0, _ => wd_step0 X s
  | k + 1, h => wd_step X s k (by omega)

set_option maxRecDepth 100000 in
set_option maxHeartbeats 2000000 in
theorem stepA (b off X : Nat) (s s' : Bool) (hs : s' = s) (w : World) (h : DlAt w b off X) : Calls Tryd.prog 31 #[.pointer (some ⟨b, off, none⟩), .bool s] w fun e w' => e = .returned (.tuple #[]) ∧ DlAt w' b off (stp X s') ∧ Touch b off (off + 4) w w' := by
  have H : Hid (DlAt w b off X) := h
  have HZ : Hid (cy X s' 0 = s.toNat) := (by rw [hs]; rfl : cy X s' 0 = s.toNat)
  clear h hs
  cases s
  all_goals
    go_enter Tryd.func31, Tryd.ntmps31
    go_wp2
    go_loopw [4, 9] (fun c i wr => ∃ k : Nat, k ≤ 4 ∧ i = .int .i64 (k : Int) ∧ c = .int .u64 (cy X s' k : Int) ∧ (∀ j, j < k → wr.cell? ⟨b, off + j, none⟩ = some (.int .u64 (wd (stp X s') j : Int))) ∧ (∀ j, k ≤ j → j < 4 → wr.cell? ⟨b, off + j, none⟩ = some (.int .u64 (wd X j : Int))) ∧ Touch b off (off + 4) w wr) (fun _ i _ => 4 - (intOf i).toNat)
    case atStart => exact ⟨0, by omega, rfl, by rw [HZ.out]; rfl, fun j hj => by omega, fun j _ hj => H.out.c j hj, Touch.refl _ _ _ _⟩
    case round =>
      obtain ⟨k, hk, rfl, rfl, hnew, hold, hT⟩ := hrel
      have HN : Hid (∀ j, j < k → wr.cell? ⟨b, off + j, none⟩ = some (.int .u64 (wd (stp X s') j : Int))) := hnew
      have HO : Hid (∀ j, k ≤ j → j < 4 → wr.cell? ⟨b, off + j, none⟩ = some (.int .u64 (wd X j : Int))) := hold
      have HT : Hid (Touch b off (off + 4) w wr) := hT
      clear hnew hold hT
      by_cases hl : k < 4
      · have ck := HO.out k (Nat.le_refl _) hl
        have fk : wr.frozen? ⟨b, off + k, none⟩ = false := (HT.out.fz _).trans (H.out.fz _)
        obtain ⟨a, ha⟩ : ∃ a, a = wd X k := ⟨_, rfl⟩
        obtain ⟨y, hy⟩ : ∃ y, y = cy X s' k := ⟨_, rfl⟩
        have HA : Hid (a = wd X k) := ha
        have HY : Hid (y = cy X s' k) := hy
        have la : a < 18446744073709551616 := ha ▸ wd_lt X k
        have ly : y ≤ 1 := hy ▸ cy_le X s' k
        have HR : Hid (bits .or .u64 (IntKind.u64.wrap ((a : Int) * 2)) (y : Int) = (wd (stp X s') k : Int)) := (by rw [shl_or a y la ly, wd_stp X s' k hl, HA.out, HY.out] : bits .or .u64 (IntKind.u64.wrap ((a : Int) * 2)) (y : Int) = (wd (stp X s') k : Int))
        rw [← ha] at ck
        rw [← hy]
        clear ha hy
        have k0 : (0 : Int) ≤ (k : Int) := by omega
        have k1 : (k : Int) < 4 := by omega
        go_wp2
        go_quiet (fail)
        go_wp2
        go_roundw
        case rel =>
          have hw : ∀ v : Int, v = (wd (stp X s') k : Int) → ((wr.drewN nq).setCell ⟨b, off + k, none⟩ (.int .u64 v)).cell? ⟨b, off + k, none⟩ = some (.int .u64 (wd (stp X s') k : Int)) := fun v hv => by
            rw [hv]; exact World.cell?_setCell_same' _ _ _ (by rw [show (wr.drewN nq).cell? ⟨b, off + k, none⟩ = wr.cell? ⟨b, off + k, none⟩ from rfl, ck]; rfl)
          refine ⟨k + 1, by omega, by go_num, ?_, fun j hj => ?_, fun j h1 h2 => ?_, ?_⟩
          · show Value.int .u64 ((a : Int) / 9223372036854775808) = Value.int .u64 ((wd X k / 9223372036854775808 : Nat) : Int)
            rw [← HA.out, Int.natCast_ediv]
            rfl
          · by_cases hjk : j = k
            · subst hjk
              refine hw _ ?_
              first | exact HR.out | (have := HR.out; rw [IntKind.wrap_u64] at this; exact this)
            · refine (World.cell?_setCell_other _ _ _ _ (by intro e; injection e; omega)).trans ?_
              exact HN.out j (by omega)
          · refine (World.cell?_setCell_other _ _ _ _ (by intro e; injection e; omega)).trans ?_
            exact HO.out j (by omega) h2
          · exact (HT.out.drewsN nq).trans (Touch.setCell _ _ (by omega) (by omega))
        case measure => simp [intOf]; omega
      · have hk4 : k = 4 := by omega
        subst hk4
        go_wp2
        go_end0
        exact ⟨rfl, ⟨fun j hj => HN.out j hj, fun i => (HT.out.fz i).trans (H.out.fz i), stp_lt X s'⟩, HT.out⟩

theorem step (b off X : Nat) (s : Bool) (w : World) (h : DlAt w b off X) : Calls Tryd.prog 31 #[.pointer (some ⟨b, off, none⟩), .bool s] w fun e w' => e = .returned (.tuple #[]) ∧ DlAt w' b off (stp X s) ∧ Touch b off (off + 4) w w' :=
  stepA b off X s s rfl w h

end Go.Proofs.YtienmoannnhhmaaDoor.Sp
