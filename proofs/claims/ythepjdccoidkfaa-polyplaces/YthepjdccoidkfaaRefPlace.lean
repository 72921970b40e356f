/- What the document's Place and Period come to. -/
import Derived.Test.YthepjdccoidkfaaRefState
namespace Go.Proofs.Ythepjdccoidkfaa.Ref1
open Go.RowKit

set_option maxRecDepth 100000 in
set_option maxHeartbeats 1000000 in
theorem Period (size tap s p : Nat) (w : World) (h1 : 1 ≤ tap) (h2 : tap < size) (h3 : size ≤ 16) (hs : s < 2 ^ size) (hp : IsPer size tap s p) :
    Calls Try.prog 31 #[.int .i64 (size : Int), .int .i64 (tap : Int), .int .i64 (s : Int)] w fun e w' => e = .returned (.int .i64 (p : Int)) ∧ Below w.heap.size w w' := by
  obtain ⟨m, hm⟩ : ∃ m, m = p2 size + 1 := ⟨_, rfl⟩
  have hp2 : p2 size ≤ 65536 := p2_le (m := 16) (by omega)
  have e0 : IntKind.i64.wrap ((p2 size : Int) + 1) = (m : Int) := by rw [IntWalk.i64_in _ (by omega)]; omega
  have hpm : p < m := by have : p ≤ p2 size := hp.le; omega
  have hm1 : m ≤ 65537 := by omega
  have HS : Hid (s < 2 ^ size) := hs
  have HP : Hid (IsPer size tap s p) := hp
  clear hm hs hp
  go_enter Try.func31, Try.ntmps31
  go_wp2_with (first
    | (go_at_call 59; refine (pow size _ (by omega)).mono ?_; rintro e w' ⟨rfl, hw⟩; subst w')
    | (go_at_call 23; fail))
  refine (States size tap s m _ h1 h2 h3 HS.out (by omega)).mono ?_
  rintro e w1 ⟨v, rfl, hR, hB⟩
  obtain ⟨g, cap, rfl⟩ := row_form hR (by omega)
  have HR : Hid (w1.ownsRow w.heap.size 3 1 (.slice (some ⟨g, 0, none⟩) m cap) m (stRow size tap s m)) := hR
  have HB : Hid (Below w.heap.size w w1) := hB
  clear hR hB
  go_wp2
  go_loopw [8] (fun v wr => ∃ i : Nat, 1 ≤ i ∧ i ≤ p ∧ v = .int .i64 (i : Int) ∧ wr = w1) (fun v _ => p - (intOf v).toNat)
  case atStart => exact ⟨1, by omega, HP.out.pos, rfl, rfl⟩
  case round =>
    obtain ⟨i, hi1, hi, rfl, rfl⟩ := hrel
    obtain ⟨a, ha⟩ : ∃ a, a = orb size tap i s := ⟨_, rfl⟩
    have cell : wr.cell? ⟨g, i, none⟩ = some (.int .i64 (a : Int)) := by
      rw [HR.out.cellAt i (by omega)]
      simp [stRow, show i < m from by omega, ha]
    have n0 : (0 : Int) ≤ (i : Int) := by omega
    have n1 : (i : Int) < (m : Int) := by omega
    by_cases hl : i < p
    · have hq : ((a : Int) == (s : Int)) = false := beq_eq_false_iff_ne.2 (fun e => HP.out.first i hi1 hl (by rw [← ha]; exact Int.ofNat.inj e))
      clear ha
      go_wp2
      go_roundw
      case rel => exact ⟨i + 1, by omega, by omega, by go_num, (by first | trivial | rfl)⟩
      case measure => simp [intOf]; omega
    · have hip : i = p := by omega
      subst hip
      have has : a = s := by rw [ha]; exact HP.out.back
      subst has
      clear ha
      go_wp2
      go_ret
      exact ⟨rfl, HB.out⟩

set_option maxRecDepth 100000 in
set_option maxHeartbeats 1000000 in
theorem Place_yes (size tap s p k : Nat) (w : World) (h1 : 1 ≤ tap) (h2 : tap < size) (h3 : size ≤ 16) (hs : 0 < 2 ^ size) (hp : IsPer size tap 0 p) (hk : k < p) (he : orb size tap k 0 = s) (hn : ∀ j, j < k → orb size tap j 0 ≠ s) :
    Calls Try.prog 30 #[.int .i64 (size : Int), .int .i64 (tap : Int), .int .i64 (s : Int)] w fun e w' => e = .returned (.int .i64 (k : Int)) ∧ Below w.heap.size w w' := by
  obtain ⟨m, hm⟩ : ∃ m, m = p2 size + 1 := ⟨_, rfl⟩
  have hp2 : p2 size ≤ 65536 := p2_le (m := 16) (by omega)
  have e0 : IntKind.i64.wrap ((p2 size : Int) + 1) = (m : Int) := by rw [IntWalk.i64_in _ (by omega)]; omega
  have hpm : p < m := by have : p ≤ p2 size := hp.le; omega
  have hm1 : m ≤ 65537 := by omega
  have HS : Hid (0 < 2 ^ size) := hs
  have HP : Hid (IsPer size tap 0 p) := hp
  clear hm hs hp
  have HE : Hid (orb size tap k 0 = s) := he
  have HN : Hid (∀ j, j < k → orb size tap j 0 ≠ s) := hn
  clear he hn
  go_enter Try.func30, Try.ntmps30
  go_wp2_with (first
    | (go_at_call 59; refine (pow size _ (by omega)).mono ?_; rintro e w' ⟨rfl, hw⟩; subst w')
    | (go_at_call 23; fail))
  refine (States size tap 0 m _ h1 h2 h3 HS.out (by omega)).mono ?_
  rintro e w1 ⟨v, rfl, hR, hB⟩
  obtain ⟨g, cap, rfl⟩ := row_form hR (by omega)
  have HR : Hid (w1.ownsRow w.heap.size 3 1 (.slice (some ⟨g, 0, none⟩) m cap) m (stRow size tap 0 m)) := hR
  have HB : Hid (Below w.heap.size w w1) := hB
  clear hR hB
  go_wp2
  go_loopw [8] (fun v wr => ∃ i : Nat, i ≤ k ∧ v = .int .i64 (i : Int) ∧ wr = w1) (fun v _ => k - (intOf v).toNat)
  case atStart => exact ⟨0, by omega, rfl, rfl⟩
  case round =>
    obtain ⟨i, hi, rfl, rfl⟩ := hrel
    obtain ⟨a, ha⟩ : ∃ a, a = orb size tap i 0 := ⟨_, rfl⟩
    have cell : wr.cell? ⟨g, i, none⟩ = some (.int .i64 (a : Int)) := by
      rw [HR.out.cellAt i (by omega)]
      simp [stRow, show i < m from by omega, ha]
    have n0 : (0 : Int) ≤ (i : Int) := by omega
    have n1 : (i : Int) < (m : Int) := by omega
    by_cases hl : i < k
    · have hq : ((a : Int) == (s : Int)) = false := beq_eq_false_iff_ne.2 (fun e => HN.out i hl (by rw [← ha]; exact Int.ofNat.inj e))
      by_cases hi0 : i = 0
      · subst hi0
        clear ha
        go_wp2
        go_roundw
        case rel => exact ⟨1, by omega, by go_num, (by first | trivial | rfl)⟩
        case measure => simp [intOf]; omega
      · have hi1 : (0 : Int) < (i : Int) := by omega
        have hz : ((a : Int) == 0) = false := beq_eq_false_iff_ne.2 (fun e => HP.out.first i (by omega) (by omega) (by rw [← ha]; omega))
        clear ha hi0
        go_wp2
        go_roundw
        case rel => exact ⟨i + 1, by omega, by go_num, (by first | trivial | rfl)⟩
        case measure => simp [intOf]; omega
    · have hip : i = k := by omega
      subst hip
      have has : a = s := by rw [ha]; exact HE.out
      subst has
      clear ha
      go_wp2
      go_ret
      exact ⟨rfl, HB.out⟩

set_option maxRecDepth 100000 in
set_option maxHeartbeats 1000000 in
theorem Place_no (size tap s p : Nat) (w : World) (h1 : 1 ≤ tap) (h2 : tap < size) (h3 : size ≤ 16) (hs : 0 < 2 ^ size) (hp : IsPer size tap 0 p) (hn : ∀ j, j < p → orb size tap j 0 ≠ s) :
    Calls Try.prog 30 #[.int .i64 (size : Int), .int .i64 (tap : Int), .int .i64 (s : Int)] w fun e w' => e = .returned (.int .i64 (-1)) ∧ Below w.heap.size w w' := by
  obtain ⟨m, hm⟩ : ∃ m, m = p2 size + 1 := ⟨_, rfl⟩
  have hp2 : p2 size ≤ 65536 := p2_le (m := 16) (by omega)
  have e0 : IntKind.i64.wrap ((p2 size : Int) + 1) = (m : Int) := by rw [IntWalk.i64_in _ (by omega)]; omega
  have hpm : p < m := by have : p ≤ p2 size := hp.le; omega
  have hm1 : m ≤ 65537 := by omega
  have HS : Hid (0 < 2 ^ size) := hs
  have HP : Hid (IsPer size tap 0 p) := hp
  clear hm hs hp
  have HN : Hid (∀ j, j < p → orb size tap j 0 ≠ s) := hn
  clear hn
  go_enter Try.func30, Try.ntmps30
  go_wp2_with (first
    | (go_at_call 59; refine (pow size _ (by omega)).mono ?_; rintro e w' ⟨rfl, hw⟩; subst w')
    | (go_at_call 23; fail))
  refine (States size tap 0 m _ h1 h2 h3 HS.out (by omega)).mono ?_
  rintro e w1 ⟨v, rfl, hR, hB⟩
  obtain ⟨g, cap, rfl⟩ := row_form hR (by omega)
  have HR : Hid (w1.ownsRow w.heap.size 3 1 (.slice (some ⟨g, 0, none⟩) m cap) m (stRow size tap 0 m)) := hR
  have HB : Hid (Below w.heap.size w w1) := hB
  clear hR hB
  go_wp2
  go_loopw [8] (fun v wr => ∃ i : Nat, i ≤ p ∧ v = .int .i64 (i : Int) ∧ wr = w1) (fun v _ => p - (intOf v).toNat)
  case atStart => exact ⟨0, by omega, rfl, rfl⟩
  case round =>
    obtain ⟨i, hi, rfl, rfl⟩ := hrel
    obtain ⟨a, ha⟩ : ∃ a, a = orb size tap i 0 := ⟨_, rfl⟩
    have cell : wr.cell? ⟨g, i, none⟩ = some (.int .i64 (a : Int)) := by
      rw [HR.out.cellAt i (by omega)]
      simp [stRow, show i < m from by omega, ha]
    have n0 : (0 : Int) ≤ (i : Int) := by omega
    have n1 : (i : Int) < (m : Int) := by omega
    by_cases hl : i < p
    · have hq : ((a : Int) == (s : Int)) = false := beq_eq_false_iff_ne.2 (fun e => HN.out i hl (by rw [← ha]; exact Int.ofNat.inj e))
      by_cases hi0 : i = 0
      · subst hi0
        clear ha
        go_wp2
        go_roundw
        case rel => exact ⟨1, by omega, by go_num, (by first | trivial | rfl)⟩
        case measure => simp [intOf]; omega
      · have hi1 : (0 : Int) < (i : Int) := by omega
        have hz : ((a : Int) == 0) = false := beq_eq_false_iff_ne.2 (fun e => HP.out.first i (by omega) (by omega) (by rw [← ha]; omega))
        clear ha hi0
        go_wp2
        go_roundw
        case rel => exact ⟨i + 1, by omega, by go_num, (by first | trivial | rfl)⟩
        case measure => simp [intOf]; omega
    · have hip : i = p := by omega
      subst hip
      have hpp := HP.out.pos
      have has : a = 0 := by rw [ha]; exact HP.out.back
      subst has
      have hq : ((0 : Int) == (s : Int)) = false := beq_eq_false_iff_ne.2 (fun e => HN.out 0 (by omega) (by show 0 = s; omega))
      have hi1 : (0 : Int) < (i : Int) := by omega
      clear ha
      go_wp2
      go_ret
      exact ⟨rfl, HB.out⟩

end Go.Proofs.Ythepjdccoidkfaa.Ref1
