/- What the document's State, States and Mark come to. -/
import Derived.Test.YthepjdccoidkfaaRefOne
import Derived.Test.YthepjdccoidkfaaCount
namespace Go.Proofs.Ythepjdccoidkfaa.Ref1
open Go.RowKit

theorem drewN_add (w : World) (a b : Nat) : (w.drewN a).drewN b = w.drewN (a + b) := by simp [World.drewN, Nat.add_assoc]

theorem bit_le (size tap s i : Nat) : orb size tap i s % 2 ≤ 1 := by omega

/-- The sum of the first j bits from k on. -/
def part (size tap s k j : Nat) : Nat := bitSum (fun i => orb size tap (k + i) s % 2) j
theorem part_lt (size tap s k j : Nat) : part size tap s k j < p2 j := bitSum_lt _ (fun _ => by omega) j
theorem part_succ (size tap s k j : Nat) : part size tap s k (j + 1) = part size tap s k j + orb size tap (k + j) s % 2 * p2 j := rfl
theorem part_all {size tap s k : Nat} (h : 1 ≤ size) (hs : s < 2 ^ size) : part size tap s k size = orb size tap k s := bitSum_orb h hs

theorem row_form {w : World} {base n : Nat} {e : TypeId} {v : Value} {xs : List Value} (h : w.ownsRow base e 1 v n xs) (hn : 1 ≤ n) : ∃ g cap, v = .slice (some ⟨g, 0, none⟩) n cap := by
  rcases h.2 with ⟨_, h0⟩ | ⟨g, cap, _, hv, _⟩
  · omega
  · exact ⟨g, cap, hv⟩

set_option maxRecDepth 100000 in
set_option maxHeartbeats 2000000 in
theorem State (size tap s n : Nat) (w : World) (h1 : 1 ≤ tap) (h2 : tap < size) (h3 : size ≤ 16) (hs : s < 2 ^ size) (hn : n ≤ 100000) :
    Calls Try.prog 67 #[.int .i64 (size : Int), .int .i64 (tap : Int), .int .i64 (s : Int), .int .i64 (n : Int)] w fun e w' =>
      e = .returned (.int .i64 (orb size tap n s : Int)) ∧ Below w.heap.size w w' := by
  obtain ⟨m, hm⟩ : ∃ m, m = n + size := ⟨_, rfl⟩
  have e0 : IntKind.i64.wrap ((n : Int) + (size : Int)) = (m : Int) := by rw [IntWalk.i64_in _ (by omega)]; omega
  have HM : Hid (m = n + size) := hm
  have hm1 : m ≤ 100016 := by omega
  have hm2 : 1 ≤ m := by omega
  clear hm
  go_enter Try.func67, Try.ntmps67
  go_wp2_with (go_at_call 22; fail)
  refine (Row size tap s m _ h1 h2 h3 hs (by omega)).mono ?_
  rintro e w1 ⟨v, rfl, hown, hB⟩
  obtain ⟨g, cap, rfl⟩ := row_form hown hm2
  go_wp2
  go_loopw [10, 11] (fun o i wr => ∃ j : Nat, j ≤ size ∧ i = .int .i64 (j : Int) ∧ o = .int .i64 (part size tap s n j : Int) ∧ ∃ q, wr = w1.drewN q) (fun _ i _ => size - (intOf i).toNat)
  case atStart => exact ⟨0, by omega, rfl, rfl, 0, rfl⟩
  case round =>
    obtain ⟨j, hj, rfl, rfl, hq⟩ := hrel
    have HQ : Hid (∃ q, wr = w1.drewN q) := hq
    clear hq
    have hpl : part size tap s n j < p2 j := part_lt _ _ _ _ _
    have hp2 : p2 j ≤ 65536 := p2_le (m := 16) (by omega)
    by_cases hl : j < size
    · obtain ⟨r, hr⟩ : ∃ r, r = n + j := ⟨_, rfl⟩
      obtain ⟨c, hc⟩ : ∃ c, c = orb size tap r s % 2 := ⟨_, rfl⟩
      obtain ⟨d, hd⟩ : ∃ d, d = c * p2 j := ⟨_, rfl⟩
      have hc1 : c ≤ 1 := by omega
      have hd1 : d ≤ 65536 := by rw [hd]; exact Nat.le_trans (Nat.mul_le_mul_right _ hc1) (by omega)
      have cell : wr.cell? ⟨g, r, none⟩ = some (.int .u8 (c : Int)) := by
        obtain ⟨q, hq⟩ := HQ.out
        rw [hq, show (w1.drewN q).cell? ⟨g, r, none⟩ = w1.cell? ⟨g, r, none⟩ from rfl, hown.cellAt r (by have := HM.out; omega)]
        have hrm : r < m := by have := HM.out; omega
        simp [bitRow, hrm, bitAt, hc]
      have n1 : (0 : Int) ≤ (r : Int) := by omega
      have ec : IntKind.i64.wrap (c : Int) = (c : Int) := IntWalk.i64_in _ (by omega)
      have n2 : (r : Int) < (m : Int) := by have := HM.out; omega
      have e1 : IntKind.i64.wrap ((n : Int) + (j : Int)) = (r : Int) := by rw [IntWalk.i64_in _ (by omega)]; omega
      have e2 : IntKind.i64.wrap ((c : Int) * (p2 j : Int)) = (d : Int) := by rw [hd, IntWalk.i64_in _ (by rw [← Int.natCast_mul, ← hd]; omega), Int.natCast_mul]
      have e3 : IntKind.i64.wrap ((part size tap s n j : Int) + (d : Int)) = (part size tap s n (j + 1) : Int) := by
        rw [part_succ, ← hr, ← hc, ← hd, IntWalk.i64_in _ (by omega)]; omega
      clear hr hc hd
      go_wp2
      go_quiet ((go_at_call 59; exact Calls.quiet_of_same (pow j _ (by omega))))
      go_wp2
      go_roundw
      case rel => exact ⟨j + 1, hl, by go_num, rfl, by obtain ⟨q, hq⟩ := HQ.out; exact ⟨q + nq, by rw [hq]; exact drewN_add _ _ _⟩⟩
      case measure => simp [intOf]; omega
    · have hjs : j = size := by omega
      subst hjs
      have HP : Hid (part j tap s n j = orb j tap n s) := part_all (by omega) hs
      go_wp2
      go_ret
      obtain ⟨q, hq⟩ := HQ.out
      exact ⟨ret_int (by rw [HP.out]), by rw [hq]; exact below_drewN hB q⟩

set_option maxRecDepth 100000 in
set_option maxHeartbeats 1000000 in
theorem Mark (i : Nat) (w : World) (hi : i < 100) : Calls Try.prog 47 #[.int .i64 (i : Int)] w fun e w' => e = .returned (.int .u8 (Count.mark i : Int)) ∧ Below w.heap.size w w' := by
  have hm := Count.mark_lt i
  have HM : Hid (orb 6 1 i 0 = Count.mark i) := rfl
  have hw : (Count.mark i : Int) % 256 = (Count.mark i : Int) := by omega
  go_enter Try.func47, Try.ntmps47
  go_wp2_with (go_at_call 67; fail)
  refine (State 6 1 0 i _ (by decide) (by decide) (by decide) (by decide) (by omega)).mono ?_
  rintro e w1 ⟨rfl, hb⟩
  rw [HM.out]
  go_wp2
  go_ret
  exact ⟨rfl, hb⟩

def stRow (size tap s n : Nat) : List Value := (List.range n).map fun i => Value.int .i64 (orb size tap i s : Int)
theorem stRow_succ (size tap s n : Nat) : stRow size tap s (n + 1) = stRow size tap s n ++ [.int .i64 (orb size tap n s : Int)] := by simp [stRow, List.range_succ]

set_option maxRecDepth 100000 in
set_option maxHeartbeats 2000000 in
theorem States (size tap s n : Nat) (w : World) (h1 : 1 ≤ tap) (h2 : tap < size) (h3 : size ≤ 16) (hs : s < 2 ^ size) (hn : n ≤ 100000) :
    Calls Try.prog 23 #[.int .i64 (size : Int), .int .i64 (tap : Int), .int .i64 (s : Int), .int .i64 (n : Int)] w fun e w' =>
      ∃ v, e = .returned v ∧ w'.ownsRow w.heap.size 3 1 v n (stRow size tap s n) ∧ Below w.heap.size w w' := by
  obtain ⟨i0, hi, hz0, hz1, hz2⟩ := info_parts infoInt
  obtain ⟨m, hm⟩ : ∃ m, m = n + size := ⟨_, rfl⟩
  have e0 : IntKind.i64.wrap ((n : Int) + (size : Int)) = (m : Int) := by rw [IntWalk.i64_in _ (by omega)]; omega
  have HM : Hid (m = n + size) := hm
  have hm1 : m ≤ 100016 := by omega
  have hm2 : 1 ≤ m := by omega
  clear hm
  go_enter Try.func23, Try.ntmps23
  go_wp2_with (go_at_call 22; fail)
  refine (Row size tap s m _ h1 h2 h3 hs (by omega)).mono ?_
  rintro e w1 ⟨v, rfl, hown, hB⟩
  obtain ⟨g, cap, rfl⟩ := row_form hown hm2
  have HR : Hid (w1.ownsRow w.heap.size 5 1 (.slice (some ⟨g, 0, none⟩) m cap) m (bitRow size tap s m)) := hown
  have hg : g < w1.heap.size := (hown.lt g rfl).2
  have HB1 : Hid (Below w.heap.size w w1) := hB
  clear hown hB
  go_wp2
  go_loopw [10, 11] (fun v i wr => ∃ k : Nat, k ≤ n ∧ i = .int .i64 (k : Int) ∧ wr.ownsRow w1.heap.size 3 1 v k (stRow size tap s k) ∧ Below w1.heap.size w1 wr) (fun _ i _ => n - (intOf i).toNat)
  case atStart => exact ⟨0, by omega, rfl, World.ownsRow_nil _ _ _ _, Below.refl _ _⟩
  case round =>
    obtain ⟨k, hk, rfl, hown, hB⟩ := hrel
    by_cases hlk : k < n
    · obtain ⟨wo, hwo⟩ : ∃ wo, wo = wr := ⟨wr, rfl⟩
      subst hwo
      obtain ⟨uo, huo⟩ : ∃ uo, uo = u10 := ⟨u10, rfl⟩
      subst huo
      have HO : Hid (wo.ownsRow w1.heap.size 3 1 uo k (stRow size tap s k)) := hown
      have HB : Hid (Below w1.heap.size w1 wo) := hB
      have hsz := hB.size
      clear hown hB
      go_wp2
      go_loopw [12, 13] (fun o i wi => ∃ j : Nat, j ≤ size ∧ i = .int .i64 (j : Int) ∧ o = .int .i64 (part size tap s k j : Int) ∧ ∃ q, wi = wo.drewN q) (fun _ i _ => size - (intOf i).toNat)
      case atStart => exact ⟨0, by omega, rfl, rfl, 0, rfl⟩
      case round =>
        obtain ⟨j, hj, rfl, rfl, hq⟩ := hrel
        have HQ : Hid (∃ q, wr = wo.drewN q) := hq
        clear hq
        have hpl : part size tap s k j < p2 j := part_lt _ _ _ _ _
        have hp2 : p2 j ≤ 65536 := p2_le (m := 16) (by omega)
        by_cases hl : j < size
        · obtain ⟨r, hr⟩ : ∃ r, r = k + j := ⟨_, rfl⟩
          obtain ⟨c, hc⟩ : ∃ c, c = orb size tap r s % 2 := ⟨_, rfl⟩
          obtain ⟨d, hd⟩ : ∃ d, d = c * p2 j := ⟨_, rfl⟩
          have hc1 : c ≤ 1 := by omega
          have hd1 : d ≤ 65536 := by rw [hd]; exact Nat.le_trans (Nat.mul_le_mul_right _ hc1) (by omega)
          have cell : wr.cell? ⟨g, r, none⟩ = some (.int .u8 (c : Int)) := by
            obtain ⟨q, hq⟩ := HQ.out
            rw [hq, show (wo.drewN q).cell? ⟨g, r, none⟩ = wo.cell? ⟨g, r, none⟩ from rfl, HB.out.cell (p := ⟨g, r, none⟩) hg, HR.out.cellAt r (by have := HM.out; omega)]
            have hrm : r < m := by have := HM.out; omega
            simp [bitRow, hrm, bitAt, hc]
          have n1 : (0 : Int) ≤ (r : Int) := by omega
          have ec : IntKind.i64.wrap (c : Int) = (c : Int) := IntWalk.i64_in _ (by omega)
          have n2 : (r : Int) < (m : Int) := by have := HM.out; omega
          have e1 : IntKind.i64.wrap ((k : Int) + (j : Int)) = (r : Int) := by rw [IntWalk.i64_in _ (by omega)]; omega
          have e2 : IntKind.i64.wrap ((c : Int) * (p2 j : Int)) = (d : Int) := by rw [hd, IntWalk.i64_in _ (by rw [← Int.natCast_mul, ← hd]; omega), Int.natCast_mul]
          have e3 : IntKind.i64.wrap ((part size tap s k j : Int) + (d : Int)) = (part size tap s k (j + 1) : Int) := by
            rw [part_succ, ← hr, ← hc, ← hd, IntWalk.i64_in _ (by omega)]; omega
          clear hr hc hd
          go_wp2
          go_quiet ((go_at_call 59; exact Calls.quiet_of_same (pow j _ (by omega))))
          go_wp2
          go_roundw
          case rel => exact ⟨j + 1, hl, by go_num, rfl, by obtain ⟨q, hq⟩ := HQ.out; exact ⟨q + nq, by rw [hq]; exact drewN_add _ _ _⟩⟩
          case measure => simp [intOf]; omega
        · have hjs : j = size := by omega
          subst hjs
          have HP : Hid (part j tap s k j = orb j tap k s) := part_all (by omega) hs
          obtain ⟨q, hq⟩ := HQ.out
          subst hq
          go_wp2_with (at_builtin; refine wpList_append_own _ rfl _ _ 34 rfl w1.heap.size 3 i0 (.int .i64 0) 1 8 Try.underlying34 hi hz0 hz1 hz2 rfl (by decide) _ _ _ rfl ((show (wo.drewN q).ownsRow w1.heap.size 3 1 uo k (stRow j tap s k) from HO.out).alloc _) _ 1 1 [_] rfl rfl (cell_one_new _ _ _) (by simp [Value.oneCell']) (by unfold maxLen; omega) (by omega) (by simp; omega) ?_; intro v' w2 hown' hgrow _)
          have hgr : World.grownBy _ w2 uo.ownBlock := hgrow
          go_roundw
          case rel => exact ⟨k + 1, hlk, by go_num, by rw [stRow_succ, ← HP.out]; exact hown', ((below_drewN HB.out q).alloc hsz _).grown hgr (by simp; omega) (fun x e => (HO.out.lt x e).1)⟩
          case measure => simp [intOf]; omega
    · have hkn : k = n := by omega
      subst hkn
      go_wp2
      go_ret
      have hle := HB1.out.size
      refine ⟨_, rfl, ⟨hown.1, ?_⟩, HB1.out.trans (hB.mono hle)⟩
      rcases hown.2 with h0 | ⟨g', cap', cur, hv, hg', rest⟩
      · exact .inl h0
      · exact .inr ⟨g', cap', cur, hv, by omega, rest⟩

end Go.Proofs.Ythepjdccoidkfaa.Ref1
