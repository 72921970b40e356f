/- What the document's own answers of the first layer come to. -/
import Derived.Test.YthepjdccoidkfaaMath
import Derived.Test.YthepjdccoidkfaaRows
import Derived.WalkKit
import Derived.ProofKit
import Derived.OpenShut
import Derived.Handy
import Derived.WalkLawsBesides
import Derived.Deep.RegionHeld3
import Derived.BigQuiet
import Derived.Deep.QuietTactic
import Derived.Maps.AppendAt
import Derived.WalkSmall
namespace Go.Proofs.Ythepjdccoidkfaa.Ref1
open Go.RowKit

set_option maxRecDepth 100000 in
set_option maxHeartbeats 1000000 in
theorem pow (n : Nat) (w : World) (h : n ≤ 40) : Calls Try.prog 59 #[.int .i64 (n : Int)] w fun e w' => e = .returned (.int .i64 (p2 n : Int)) ∧ w' = w := by
  go_enter Try.func59, Try.ntmps59
  go_wp2
  go_loop [3, 4] (fun o i => ∃ k : Nat, k ≤ n ∧ i = .int .i64 (k : Int) ∧ o = .int .i64 (p2 k : Int)) (fun _ i => n - (intOf i).toNat)
  case atStart => exact ⟨0, by omega, rfl, rfl⟩
  case round =>
    obtain ⟨k, hk, rfl, rfl⟩ := hrel
    have hb : p2 k ≤ 1099511627776 := p2_le (m := 40) (by omega)
    by_cases hl : k < n
    · go_wp2
      go_round
      case rel => exact ⟨k + 1, by omega, by go_num, by rw [p2_succ]; go_num⟩
      case measure => simp [intOf]; omega
    · have hkn : k = n := by omega
      subst hkn
      go_wp2
      go_ret
      exact ⟨rfl, rfl⟩

set_option maxRecDepth 100000 in
set_option maxHeartbeats 1000000 in
theorem Right_yes (width size tap : Int) (w : World) (hw : 0 ≤ width ∧ width ≤ 100) (h1 : 2 ≤ size) (h2 : size ≤ width) (h3 : 1 ≤ tap) (h4 : tap < size) :
    Calls Try.prog 16 #[.int .i64 width, .int .i64 size, .int .i64 tap] w fun e w' => e = .returned (.bool true) ∧ w' = w := by
  go_enter Try.func16, Try.ntmps16
  go_wp2
  go_ret
  exact ⟨ret_bool (decide_eq_true (by omega)), rfl⟩

set_option maxRecDepth 100000 in
set_option maxHeartbeats 1000000 in
theorem Right_no (width size tap : Int) (w : World) (hw : 0 ≤ width ∧ width ≤ 100) (h : ¬ (2 ≤ size ∧ size ≤ width ∧ 1 ≤ tap ∧ tap < size)) :
    Calls Try.prog 16 #[.int .i64 width, .int .i64 size, .int .i64 tap] w fun e w' => e = .returned (.bool false) ∧ w' = w := by
  by_cases h1 : 2 ≤ size
  · by_cases h2 : size ≤ width
    · by_cases h3 : 1 ≤ tap
      · have h4 : size ≤ tap := by omega
        go_enter Try.func16, Try.ntmps16
        go_wp2
        go_ret
        exact ⟨ret_bool (decide_eq_false (by omega)), rfl⟩
      · go_enter Try.func16, Try.ntmps16
        go_wp2
        go_ret
        exact ⟨rfl, rfl⟩
    · go_enter Try.func16, Try.ntmps16
      go_wp2
      go_ret
      exact ⟨rfl, rfl⟩
  · go_enter Try.func16, Try.ntmps16
    go_wp2
    go_ret
    exact ⟨rfl, rfl⟩

set_option maxRecDepth 100000 in
set_option maxHeartbeats 1000000 in
theorem Fits (size s : Nat) (w : World) (h : size ≤ 40) :
    Calls Try.prog 21 #[.int .i64 (size : Int), .int .i64 (s : Int)] w fun e w' => e = .returned (.bool (decide (s < 2 ^ size))) ∧ w' = w := by
  have H : Hid (decide (s < p2 size) = decide (s < 2 ^ size)) := rfl
  go_enter Try.func21, Try.ntmps21
  go_wp2_with (go_at_call 59; refine (pow size _ h).mono ?_; rintro e w' ⟨rfl, rfl⟩)
  go_ret
  exact ⟨ret_bool H.out, rfl⟩

theorem infoByte : (Try.prog.info? 5).map (fun i => (i.zero, i.size, i.bytes)) = some (some (.int .u8 0), 1, 1) := by kernel_rfl
theorem infoInt : (Try.prog.info? 3).map (fun i => (i.zero, i.size, i.bytes)) = some (some (.int .i64 0), 1, 8) := by kernel_rfl

/-- The bit that falls out at step i. -/
def bitAt (size tap s i : Nat) : Int := ((orb size tap i s % 2 : Nat) : Int)
def bitRow (size tap s n : Nat) : List Value := (List.range n).map fun i => Value.int .u8 (bitAt size tap s i)
theorem bitRow_succ (size tap s n : Nat) : bitRow size tap s (n + 1) = bitRow size tap s n ++ [.int .u8 (bitAt size tap s n)] := by simp [bitRow, List.range_succ]
theorem bitRow_length (size tap s n : Nat) : (bitRow size tap s n).length = n := by simp [bitRow]

theorem bit_val {size tap s k : Nat} (hk : k < size) (hs : s < 2 ^ size) (h3 : size ≤ 16) : (wrap64 ((s : Int) / (p2 k : Int))).tmod 2 % 256 = bitAt size tap s k := by
  have e : (s : Int) / (p2 k : Int) = ((s / p2 k : Nat) : Int) := (Int.natCast_ediv _ _).symm
  have hb : s < 2 ^ 16 := Nat.lt_of_lt_of_le hs (Nat.pow_le_pow_right (n := 2) (by omega) h3)
  have hq : s / p2 k ≤ s := Nat.div_le_self _ _
  have a := win (size := size) (tap := tap) (s := s) k 0 hk
  simp only [orb, Nat.zero_add] at a
  rw [e]
  unfold bitAt
  rw [← a]
  show (wrap64 ((s / p2 k : Nat) : Int)).tmod 2 % 256 = ((s / p2 k % 2 : Nat) : Int)
  generalize s / p2 k = q at *
  rw [IntWalk.wrap64_in _ (by omega), Int.tmod_eq_emod_of_nonneg (by omega)]
  omega

set_option maxRecDepth 100000 in
set_option maxHeartbeats 2000000 in
theorem Row (size tap s n : Nat) (w : World) (h1 : 1 ≤ tap) (h2 : tap < size) (h3 : size ≤ 16) (hs : s < 2 ^ size) (hn : n ≤ 200000) :
    Calls Try.prog 22 #[.int .i64 (size : Int), .int .i64 (tap : Int), .int .i64 (s : Int), .int .i64 (n : Int)] w fun e w' =>
      ∃ v, e = .returned v ∧ w'.ownsRow w.heap.size 5 1 v n (bitRow size tap s n) ∧ Below w.heap.size w w' := by
  obtain ⟨i0, hi, hz0, hz1, hz2⟩ := info_parts infoByte
  go_enter Try.func22, Try.ntmps22
  go_wp2
  go_loopw [9, 10] (fun v i wr => ∃ k : Nat, k ≤ n ∧ i = .int .i64 (k : Int) ∧ wr.ownsRow w.heap.size 5 1 v k (bitRow size tap s k) ∧ Below w.heap.size w wr) (fun _ i _ => n - (intOf i).toNat)
  case atStart => exact ⟨0, by omega, rfl, World.ownsRow_nil _ _ _ _, Below.refl _ _⟩
  case round =>
    obtain ⟨k, hk, rfl, hown, hB⟩ := hrel
    by_cases hl : k < n
    · by_cases hz : k < size
      · have hp0 : ¬ p2 k = 0 := by have := p2_pos k; omega
        go_wp2_with (first
          | (go_at_call 59; refine (pow k _ (by omega)).mono ?_; rintro e w' ⟨rfl, rfl⟩)
          | (at_builtin; refine wpList_append_own _ rfl _ _ 32 rfl w.heap.size 5 i0 (.int .u8 0) 1 1 Try.underlying32 hi hz0 hz1 hz2 rfl (by decide) _ _ _ rfl (hown.alloc _) _ 1 1 [_] rfl rfl (cell_one_new _ _ _) (by simp [Value.oneCell']) (by unfold maxLen; omega) (by omega) (by have := hB.size; simp; omega) ?_; intro v' w1 hown' hgrow _))
        have hg : World.grownBy _ w1 u9.ownBlock := hgrow
        go_roundw
        case rel => exact ⟨k + 1, hl, by go_num, by rw [bitRow_succ, ← bit_val hz hs h3]; exact hown', (hB.alloc hB.size _).grown hg (by have := hB.size; simp; omega) (fun r e => (hown.lt r e).1)⟩
        case measure => simp [intOf]; omega
      · obtain ⟨m, hm⟩ : ∃ m, m + size = k := ⟨k - size, by omega⟩
        obtain ⟨r, hr⟩ : ∃ r, r = m + tap := ⟨_, rfl⟩
        obtain ⟨g, cap, rfl⟩ : ∃ g cap, u9 = .slice (some ⟨g, 0, none⟩) k cap := by
          rcases hown.2 with ⟨_, h0⟩ | ⟨g, cap, _, hv, _⟩
          · omega
          · exact ⟨g, cap, hv⟩
        have c1 : wr.cell? ⟨g, m, none⟩ = some (.int .u8 (bitAt size tap s m)) := by
          rw [hown.cellAt m (by omega)]; simp [bitRow, show m < k from by omega]
        have c2 : wr.cell? ⟨g, r, none⟩ = some (.int .u8 (bitAt size tap s r)) := by
          rw [hown.cellAt r (by omega)]; simp [bitRow, show r < k from by omega]
        have n1 : (0 : Int) ≤ (m : Int) := by omega
        have n2 : (m : Int) < (k : Int) := by omega
        have n3 : (0 : Int) ≤ (r : Int) := by omega
        have n4 : (r : Int) < (k : Int) := by omega
        have e1 : IntKind.i64.wrap ((k : Int) - (size : Int)) = (m : Int) := by rw [IntWalk.i64_in _ (by omega)]; omega
        have e2 : IntKind.i64.wrap ((m : Int) + (tap : Int)) = (r : Int) := by rw [IntWalk.i64_in _ (by omega)]; omega
        have HV : Hid (bitAt size tap s k = if bitAt size tap s m = bitAt size tap s r then 1 else 0) := by
          have a := row_rec h1 h2 hs m
          show _ = _
          unfold bitAt
          rw [hr, ← hm, a]
          split <;> split <;> omega
        have Hmk : Hid (m + size = k ∧ r = m + tap) := ⟨hm, hr⟩
        have HO : Hid (wr.ownsRow w.heap.size 5 1 (.slice (some ⟨g, 0, none⟩) k cap) k (bitRow size tap s k)) := hown
        have HB : Hid (Below w.heap.size w wr) := hB
        have hsz := hB.size
        clear hm hr hown hB
        by_cases heq : bitAt size tap s m = bitAt size tap s r
        · have hb : (bitAt size tap s m == bitAt size tap s r) = true := beq_iff_eq.2 heq
          have HE : Hid (bitAt size tap s k = 1) := by show _ = _; rw [HV.out, if_pos heq]
          clear heq HV
          go_wp2
          go_quiet (fail)
          go_wp2_with (at_builtin; refine wpList_append_own _ rfl _ _ 32 rfl w.heap.size 5 i0 (.int .u8 0) 1 1 Try.underlying32 hi hz0 hz1 hz2 rfl (by decide) _ _ _ rfl (HO.out.alloc _) _ 1 1 [_] rfl rfl (cell_one_new _ _ _) (by simp [Value.oneCell']) (by unfold maxLen; omega) (by omega) (by simp; omega) ?_; intro v' w1 hown' hgrow _)
          have hg : World.grownBy _ w1 (Value.slice (some ⟨g, 0, none⟩) k cap).ownBlock := hgrow
          go_roundw
          case rel => exact ⟨k + 1, hl, by go_num, by rw [bitRow_succ, HE.out]; exact hown', ((below_drewN HB.out nq).alloc hsz _).grown hg (by simp; omega) (fun x e => (HO.out.lt x e).1)⟩
          case measure => simp [intOf]; omega
        · have hb : (bitAt size tap s m == bitAt size tap s r) = false := beq_eq_false_iff_ne.2 heq
          have HE : Hid (bitAt size tap s k = 0) := by show _ = _; rw [HV.out, if_neg heq]
          clear heq HV
          go_wp2
          go_quiet (fail)
          go_wp2_with (at_builtin; refine wpList_append_own _ rfl _ _ 32 rfl w.heap.size 5 i0 (.int .u8 0) 1 1 Try.underlying32 hi hz0 hz1 hz2 rfl (by decide) _ _ _ rfl (HO.out.alloc _) _ 1 1 [_] rfl rfl (cell_one_new _ _ _) (by simp [Value.oneCell']) (by unfold maxLen; omega) (by omega) (by simp; omega) ?_; intro v' w1 hown' hgrow _)
          have hg : World.grownBy _ w1 (Value.slice (some ⟨g, 0, none⟩) k cap).ownBlock := hgrow
          go_roundw
          case rel => exact ⟨k + 1, hl, by go_num, by rw [bitRow_succ, HE.out]; exact hown', ((below_drewN HB.out nq).alloc hsz _).grown hg (by simp; omega) (fun x e => (HO.out.lt x e).1)⟩
          case measure => simp [intOf]; omega
    · have hkn : k = n := by omega
      subst hkn
      go_wp2
      go_ret
      exact ⟨_, rfl, hown, hB⟩

end Go.Proofs.Ythepjdccoidkfaa.Ref1
