/- Set of a port and of an edge. -/
import Derived.Test.YtgclgegdojnpcaaPort1
namespace Go.Proofs.Ytgclgegdojnpcaa.Po
open Go.RowKit

set_option maxHeartbeats 1000000 in
theorem byteOf (x : Int) (w : World) (h1 : 0 ≤ x) (h2 : x ≤ 255) : Calls Try.prog 30 #[.int .i64 x] w fun e w' => e = .returned (.tuple #[.int .u8 x, .bool true]) ∧ w' = w := by
  go_enter Try.func30, Try.ntmps30
  go_wp2
  go_returns
  exact ⟨rfl, rfl⟩

set_option maxHeartbeats 1000000 in
theorem byteNo (x : Int) (w : World) (h : x < 0 ∨ 255 < x) : Calls Try.prog 30 #[.int .i64 x] w fun e w' => e = .returned (.tuple #[.int .u8 (x % 256), .bool false]) ∧ w' = w := by
  obtain ⟨y, hy⟩ : ∃ y, x % 256 = y := ⟨_, rfl⟩
  have hy1 : 0 ≤ y := by omega
  have hy2 : y ≤ 255 := by omega
  have hw : IntKind.u8.wrap x = y := by rw [IntKind.wrap_u8']; omega
  have he : (y == x) = false := by simp; omega
  rw [hy]
  clear hy h
  go_enter Try.func30, Try.ntmps30
  go_wp2
  go_returns
  exact ⟨rfl, rfl⟩

theorem run_index_array {P : Program} (w : World) (t e : TypeId) (n : Nat) (cs : Array Go.Value) (k : IntKind) (i : Nat) (v : Go.Value) (h : P.underlying t = some (.array n e)) (hs : ∀ w, (sizeOf e).run P w = .ok 1 w) (ha : ∀ w, (isAgg e).run P w = .ok false w) (hi : i < n) (hv : cs[i]? = some v) :
    (Instr.index t (.agg cs) (.int k (i : Int))).run P w = .ok v w := by
  have h1 : (0 : Int) ≤ (i : Int) ∧ (i : Int) < (n : Int) := by omega
  simp [Instr.index, run_underlying h, asIntOf, h1, hs, ha, hi, hv, go_sem]
theorem sizeInt (w : World) : (sizeOf 3).run Try.prog w = .ok 1 w := by
  have h : (Try.prog.info? 3).map (·.size) = some 1 := by kernel_rfl
  obtain ⟨i, h1, h2⟩ := Option.map_eq_some_iff.1 h
  rw [run_sizeOf w h1, show Try.prog.cellsOf 3 = 1 by kernel_rfl]
theorem aggInt (w : World) : (isAgg 3).run Try.prog w = .ok false w := run_isAgg_plain Try.underlying3 rfl w
theorem at3 (x y z : Int) (i : Nat) (v : Go.Value) (hi : i < 3) (hv : (#[.int .i64 x, .int .i64 y, .int .i64 z] : Array Go.Value)[i]? = some v) (w : World) :
    (Instr.index 25 (.agg #[.int .i64 x, .int .i64 y, .int .i64 z]) (.int .i64 (i : Int))).run Try.prog w = .ok v w :=
  run_index_array w 25 3 3 _ .i64 i v Try.underlying25 sizeInt aggInt hi hv

def isByte (x : Int) : Prop := 0 ≤ x ∧ x ≤ 255
instance (x : Int) : Decidable (isByte x) := inferInstanceAs (Decidable (_ ∧ _))
theorem notByte {x : Int} (h : ¬ isByte x) : x < 0 ∨ 255 < x := by unfold isByte at h; omega

set_option maxRecDepth 100000 in
set_option maxHeartbeats 1000000 in
theorem parts8_yes (x y z : Int) (w : World) (hx : isByte x) (hy : isByte y) (hz : isByte z) : Calls Try.prog 29 #[.agg #[.int .i64 x, .int .i64 y, .int .i64 z], .func (.func 30) #[] #[]] w fun e w' => e = .returned (.tuple #[.agg #[.int .u8 x, .int .u8 y, .int .u8 z], .bool true]) ∧ Below w.heap.size w w' := by
  have r0 := at3 x y z 0 _ (by decide) rfl
  have r1 := at3 x y z 1 _ (by decide) rfl
  have r2 := at3 x y z 2 _ (by decide) rfl
  simp only [Int.cast_ofNat_Int] at r0 r1 r2
  have HX : Hid (isByte x) := hx
  have HY : Hid (isByte y) := hy
  have HZ : Hid (isByte z) := hz
  clear hx hy hz
  go_enter Try.func29, Try.ntmps29
  go_wp2
  refine wp_loop_rounds 4 ?_
  rw [rounds_succ]
  go_wp2_with (go_at_call 30; refine (byteOf x _ HX.out.1 HX.out.2).mono ?_; rintro e w' ⟨rfl, hw⟩; rw [hw]; clear hw w')
  rw [rounds_succ]
  go_wp2_with (go_at_call 30; refine (byteOf y _ HY.out.1 HY.out.2).mono ?_; rintro e w' ⟨rfl, hw⟩; rw [hw]; clear hw w')
  rw [rounds_succ]
  go_wp2_with (go_at_call 30; refine (byteOf z _ HZ.out.1 HZ.out.2).mono ?_; rintro e w' ⟨rfl, hw⟩; rw [hw]; clear hw w')
  rw [rounds_succ]
  go_wp2
  go_returns
  exact ⟨rfl, by go_grown⟩

set_option maxRecDepth 100000 in
set_option maxHeartbeats 1000000 in
theorem parts8_no0 (x y z : Int) (w : World) (hx : (x < 0 ∨ 255 < x)) : Calls Try.prog 29 #[.agg #[.int .i64 x, .int .i64 y, .int .i64 z], .func (.func 30) #[] #[]] w fun e w' => e = .returned (.tuple #[.agg #[.int .u8 0, .int .u8 0, .int .u8 0], .bool false]) ∧ Below w.heap.size w w' := by
  have r0 := at3 x y z 0 _ (by decide) rfl
  have r1 := at3 x y z 1 _ (by decide) rfl
  have r2 := at3 x y z 2 _ (by decide) rfl
  simp only [Int.cast_ofNat_Int] at r0 r1 r2
  have HX : Hid ((x < 0 ∨ 255 < x)) := hx
  clear hx
  go_enter Try.func29, Try.ntmps29
  go_wp2
  refine wp_loop_rounds 4 ?_
  rw [rounds_succ]
  go_wp2_with (go_at_call 30; refine (byteNo x _ HX.out).mono ?_; rintro e w' ⟨rfl, hw⟩; rw [hw]; clear hw w')
  (try go_wp2)
  go_returns
  exact ⟨rfl, by go_grown⟩

set_option maxRecDepth 100000 in
set_option maxHeartbeats 1000000 in
theorem parts8_no1 (x y z : Int) (w : World) (hx : isByte x) (hy : (y < 0 ∨ 255 < y)) : Calls Try.prog 29 #[.agg #[.int .i64 x, .int .i64 y, .int .i64 z], .func (.func 30) #[] #[]] w fun e w' => e = .returned (.tuple #[.agg #[.int .u8 0, .int .u8 0, .int .u8 0], .bool false]) ∧ Below w.heap.size w w' := by
  have r0 := at3 x y z 0 _ (by decide) rfl
  have r1 := at3 x y z 1 _ (by decide) rfl
  have r2 := at3 x y z 2 _ (by decide) rfl
  simp only [Int.cast_ofNat_Int] at r0 r1 r2
  have HX : Hid (isByte x) := hx
  have HY : Hid ((y < 0 ∨ 255 < y)) := hy
  clear hx hy
  go_enter Try.func29, Try.ntmps29
  go_wp2
  refine wp_loop_rounds 4 ?_
  rw [rounds_succ]
  go_wp2_with (go_at_call 30; refine (byteOf x _ HX.out.1 HX.out.2).mono ?_; rintro e w' ⟨rfl, hw⟩; rw [hw]; clear hw w')
  rw [rounds_succ]
  go_wp2_with (go_at_call 30; refine (byteNo y _ HY.out).mono ?_; rintro e w' ⟨rfl, hw⟩; rw [hw]; clear hw w')
  (try go_wp2)
  go_returns
  exact ⟨rfl, by go_grown⟩

set_option maxRecDepth 100000 in
set_option maxHeartbeats 1000000 in
theorem parts8_no2 (x y z : Int) (w : World) (hx : isByte x) (hy : isByte y) (hz : (z < 0 ∨ 255 < z)) : Calls Try.prog 29 #[.agg #[.int .i64 x, .int .i64 y, .int .i64 z], .func (.func 30) #[] #[]] w fun e w' => e = .returned (.tuple #[.agg #[.int .u8 0, .int .u8 0, .int .u8 0], .bool false]) ∧ Below w.heap.size w w' := by
  have r0 := at3 x y z 0 _ (by decide) rfl
  have r1 := at3 x y z 1 _ (by decide) rfl
  have r2 := at3 x y z 2 _ (by decide) rfl
  simp only [Int.cast_ofNat_Int] at r0 r1 r2
  have HX : Hid (isByte x) := hx
  have HY : Hid (isByte y) := hy
  have HZ : Hid ((z < 0 ∨ 255 < z)) := hz
  clear hx hy hz
  go_enter Try.func29, Try.ntmps29
  go_wp2
  refine wp_loop_rounds 4 ?_
  rw [rounds_succ]
  go_wp2_with (go_at_call 30; refine (byteOf x _ HX.out.1 HX.out.2).mono ?_; rintro e w' ⟨rfl, hw⟩; rw [hw]; clear hw w')
  rw [rounds_succ]
  go_wp2_with (go_at_call 30; refine (byteOf y _ HY.out.1 HY.out.2).mono ?_; rintro e w' ⟨rfl, hw⟩; rw [hw]; clear hw w')
  rw [rounds_succ]
  go_wp2_with (go_at_call 30; refine (byteNo z _ HZ.out).mono ?_; rintro e w' ⟨rfl, hw⟩; rw [hw]; clear hw w')
  (try go_wp2)
  go_returns
  exact ⟨rfl, by go_grown⟩

theorem parts8_no (x y z : Int) (w : World) (h : ¬ (isByte x ∧ isByte y ∧ isByte z)) : Calls Try.prog 29 #[.agg #[.int .i64 x, .int .i64 y, .int .i64 z], .func (.func 30) #[] #[]] w fun e w' => e = .returned (.tuple #[.agg #[.int .u8 0, .int .u8 0, .int .u8 0], .bool false]) ∧ Below w.heap.size w w' := by
  by_cases hx : isByte x
  · by_cases hy : isByte y
    · exact parts8_no2 x y z w hx hy (notByte fun hz => h ⟨hx, hy, hz⟩)
    · exact parts8_no1 x y z w hx (notByte hy)
  · exact parts8_no0 x y z w (notByte hx)

def isBit (x : Int) : Prop := x = 0 ∨ x = 1
instance (x : Int) : Decidable (isBit x) := inferInstanceAs (Decidable (_ ∨ _))

set_option maxHeartbeats 1000000 in
theorem bitOf (x : Int) (w : World) (h : isBit x) : Calls Try.prog 32 #[.int .i64 x] w fun e w' => e = .returned (.tuple #[.bool (x == 1), .bool true]) ∧ w' = w := by
  rcases h with rfl | rfl
  all_goals
    go_enter Try.func32, Try.ntmps32
    go_wp2
    go_returns
    exact ⟨rfl, rfl⟩

set_option maxHeartbeats 1000000 in
theorem bitNo (x : Int) (w : World) (h : ¬ isBit x) : Calls Try.prog 32 #[.int .i64 x] w fun e w' => e = .returned (.tuple #[.bool false, .bool false]) ∧ w' = w := by
  have h0 : (x == 0) = false := by unfold isBit at h; simp; omega
  have h1 : (x == 1) = false := by unfold isBit at h; simp; omega
  clear h
  go_enter Try.func32, Try.ntmps32
  go_wp2
  go_returns
  exact ⟨rfl, rfl⟩

set_option maxRecDepth 100000 in
set_option maxHeartbeats 1000000 in
theorem parts1_yes (x y z : Int) (w : World) (hx : isBit x) (hy : isBit y) (hz : isBit z) : Calls Try.prog 31 #[.agg #[.int .i64 x, .int .i64 y, .int .i64 z], .func (.func 32) #[] #[]] w fun e w' => e = .returned (.tuple #[.agg #[.bool (x == 1), .bool (y == 1), .bool (z == 1)], .bool true]) ∧ Below w.heap.size w w' := by
  have r0 := at3 x y z 0 _ (by decide) rfl
  have r1 := at3 x y z 1 _ (by decide) rfl
  have r2 := at3 x y z 2 _ (by decide) rfl
  simp only [Int.cast_ofNat_Int] at r0 r1 r2
  have HX : Hid (isBit x) := hx
  have HY : Hid (isBit y) := hy
  have HZ : Hid (isBit z) := hz
  clear hx hy hz
  go_enter Try.func31, Try.ntmps31
  go_wp2
  refine wp_loop_rounds 4 ?_
  rw [rounds_succ]
  go_wp2_with (go_at_call 32; refine (bitOf x _ HX.out).mono ?_; rintro e w' ⟨rfl, hw⟩; rw [hw]; clear hw w')
  rw [rounds_succ]
  go_wp2_with (go_at_call 32; refine (bitOf y _ HY.out).mono ?_; rintro e w' ⟨rfl, hw⟩; rw [hw]; clear hw w')
  rw [rounds_succ]
  go_wp2_with (go_at_call 32; refine (bitOf z _ HZ.out).mono ?_; rintro e w' ⟨rfl, hw⟩; rw [hw]; clear hw w')
  rw [rounds_succ]
  go_wp2
  go_returns
  exact ⟨rfl, by go_grown⟩

set_option maxRecDepth 100000 in
set_option maxHeartbeats 1000000 in
theorem parts1_no0 (x y z : Int) (w : World) (hx : ¬ isBit x) : Calls Try.prog 31 #[.agg #[.int .i64 x, .int .i64 y, .int .i64 z], .func (.func 32) #[] #[]] w fun e w' => e = .returned (.tuple #[.agg #[.bool false, .bool false, .bool false], .bool false]) ∧ Below w.heap.size w w' := by
  have r0 := at3 x y z 0 _ (by decide) rfl
  have r1 := at3 x y z 1 _ (by decide) rfl
  have r2 := at3 x y z 2 _ (by decide) rfl
  simp only [Int.cast_ofNat_Int] at r0 r1 r2
  have HX : Hid (¬ isBit x) := hx
  clear hx
  go_enter Try.func31, Try.ntmps31
  go_wp2
  refine wp_loop_rounds 4 ?_
  rw [rounds_succ]
  go_wp2_with (go_at_call 32; refine (bitNo x _ HX.out).mono ?_; rintro e w' ⟨rfl, hw⟩; rw [hw]; clear hw w')
  (try go_wp2)
  go_returns
  exact ⟨rfl, by go_grown⟩

set_option maxRecDepth 100000 in
set_option maxHeartbeats 1000000 in
theorem parts1_no1 (x y z : Int) (w : World) (hx : isBit x) (hy : ¬ isBit y) : Calls Try.prog 31 #[.agg #[.int .i64 x, .int .i64 y, .int .i64 z], .func (.func 32) #[] #[]] w fun e w' => e = .returned (.tuple #[.agg #[.bool false, .bool false, .bool false], .bool false]) ∧ Below w.heap.size w w' := by
  have r0 := at3 x y z 0 _ (by decide) rfl
  have r1 := at3 x y z 1 _ (by decide) rfl
  have r2 := at3 x y z 2 _ (by decide) rfl
  simp only [Int.cast_ofNat_Int] at r0 r1 r2
  have HX : Hid (isBit x) := hx
  have HY : Hid (¬ isBit y) := hy
  clear hx hy
  go_enter Try.func31, Try.ntmps31
  go_wp2
  refine wp_loop_rounds 4 ?_
  rw [rounds_succ]
  go_wp2_with (go_at_call 32; refine (bitOf x _ HX.out).mono ?_; rintro e w' ⟨rfl, hw⟩; rw [hw]; clear hw w')
  rw [rounds_succ]
  go_wp2_with (go_at_call 32; refine (bitNo y _ HY.out).mono ?_; rintro e w' ⟨rfl, hw⟩; rw [hw]; clear hw w')
  (try go_wp2)
  go_returns
  exact ⟨rfl, by go_grown⟩

set_option maxRecDepth 100000 in
set_option maxHeartbeats 1000000 in
theorem parts1_no2 (x y z : Int) (w : World) (hx : isBit x) (hy : isBit y) (hz : ¬ isBit z) : Calls Try.prog 31 #[.agg #[.int .i64 x, .int .i64 y, .int .i64 z], .func (.func 32) #[] #[]] w fun e w' => e = .returned (.tuple #[.agg #[.bool false, .bool false, .bool false], .bool false]) ∧ Below w.heap.size w w' := by
  have r0 := at3 x y z 0 _ (by decide) rfl
  have r1 := at3 x y z 1 _ (by decide) rfl
  have r2 := at3 x y z 2 _ (by decide) rfl
  simp only [Int.cast_ofNat_Int] at r0 r1 r2
  have HX : Hid (isBit x) := hx
  have HY : Hid (isBit y) := hy
  have HZ : Hid (¬ isBit z) := hz
  clear hx hy hz
  go_enter Try.func31, Try.ntmps31
  go_wp2
  refine wp_loop_rounds 4 ?_
  rw [rounds_succ]
  go_wp2_with (go_at_call 32; refine (bitOf x _ HX.out).mono ?_; rintro e w' ⟨rfl, hw⟩; rw [hw]; clear hw w')
  rw [rounds_succ]
  go_wp2_with (go_at_call 32; refine (bitOf y _ HY.out).mono ?_; rintro e w' ⟨rfl, hw⟩; rw [hw]; clear hw w')
  rw [rounds_succ]
  go_wp2_with (go_at_call 32; refine (bitNo z _ HZ.out).mono ?_; rintro e w' ⟨rfl, hw⟩; rw [hw]; clear hw w')
  (try go_wp2)
  go_returns
  exact ⟨rfl, by go_grown⟩

theorem parts1_no (x y z : Int) (w : World) (h : ¬ (isBit x ∧ isBit y ∧ isBit z)) : Calls Try.prog 31 #[.agg #[.int .i64 x, .int .i64 y, .int .i64 z], .func (.func 32) #[] #[]] w fun e w' => e = .returned (.tuple #[.agg #[.bool false, .bool false, .bool false], .bool false]) ∧ Below w.heap.size w w' := by
  by_cases hx : isBit x
  · by_cases hy : isBit y
    · exact parts1_no2 x y z w hx hy (fun hz => h ⟨hx, hy, hz⟩)
    · exact parts1_no1 x y z w hx hy
  · exact parts1_no0 x y z w hx

end Go.Proofs.Ytgclgegdojnpcaa.Po
