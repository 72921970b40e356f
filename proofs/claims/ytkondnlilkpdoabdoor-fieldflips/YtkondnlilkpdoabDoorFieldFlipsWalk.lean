/- FieldFlips, walked: whatever comes in, true comes out. -/
import Derived.Test.YtkondnlilkpdoabDoorAwakeF
import Derived.Test.YtkondnlilkpdoabDoorFrame
set_option linter.unusedVariables false
namespace Go.Proofs.YtkondnlilkpdoabDoor.fieldFlips
open Go.RowKit Fi

set_option maxRecDepth 100000 in
set_option maxHeartbeats 2000000 in
theorem walk (a0 : Int) (w0 : (Lit.int .u8 a0).wf = true) (a1 : Int) (w1 : (Lit.int .u8 a1).wf = true) (a2 : Int) (w2 : (Lit.int .u8 a2).wf = true) (W : World) (ht : Tab W) :
    Calls Tryd.prog 3 #[.int .u8 a0, .int .u8 a1, .int .u8 a2] W fun e w' => e = .returned (.bool true) ∧ Below W.heap.size W w' := by
  have h0 := bounds_u8 w0
  have h1 := bounds_u8 w1
  have h2 := bounds_u8 w2
  obtain ⟨b, rfl⟩ := Int.eq_ofNat_of_zero_le h0.1
  obtain ⟨y, rfl⟩ := Int.eq_ofNat_of_zero_le h1.1
  obtain ⟨z, rfl⟩ := Int.eq_ofNat_of_zero_le h2.1
  -- the width from 1 to 8, the dot
  obtain ⟨v, hv⟩ : ∃ v : Nat, (y : Int) % 8 + 1 = (v : Int) := ⟨y % 8 + 1, by omega⟩
  have lv : 1 ≤ v ∧ v ≤ 8 := by omega
  obtain ⟨e8, he8⟩ : ∃ e : Nat, 8 * (v : Int) = (e : Int) := ⟨8 * v, by omega⟩
  have hev : e8 = 8 * v := by omega
  obtain ⟨n, hn⟩ : ∃ n : Nat, (z : Int) % (e8 : Int) = (n : Int) := ⟨z % e8, by rw [Int.natCast_emod]⟩
  have hnz : n = z % e8 := by have : ((z % e8 : Nat) : Int) = (n : Int) := by rw [Int.natCast_emod]; exact hn
                              omega
  have ln : n < e8 := by rw [hnz]; exact Nat.mod_lt _ (by omega)
  obtain ⟨q, hq⟩ : ∃ q : Nat, (n : Int) / (v : Int) = (q : Int) := ⟨n / v, by rw [Int.natCast_ediv]⟩
  have hqn : q = n / v := by have : ((n / v : Nat) : Int) = (q : Int) := by rw [Int.natCast_ediv]; exact hq
                             omega
  have lq : q ≤ 7 := by rw [hqn]; exact Nat.le_of_lt_succ (Nat.div_lt_of_lt_mul (by rw [Nat.mul_comm]; omega))
  obtain ⟨m, hm⟩ : ∃ m : Nat, (e8 : Int) - 1 - (n : Int) = (m : Int) := ⟨e8 - 1 - n, by omega⟩
  have hq2 : (m : Int) / (v : Int) = ((7 - q : Nat) : Int) := by
    have hmm : m = v * 8 - (n + 1) := by rw [Nat.mul_comm]; omega
    have : m / v = 7 - q := by rw [hmm, Nat.mul_sub_div n v 8 (by rw [Nat.mul_comm]; omega), hqn]; omega
    rw [← Int.natCast_ediv, this]
  have hq3 : (n : Int) / 1 = (n : Int) := Int.ediv_one _
  have hem : Int.tmod (z : Int) (e8 : Int) = (n : Int) := by rw [Int.tmod_eq_emod_of_nonneg (by omega)]; exact hn
  have hne : (e8 : Int) ≠ 0 := by omega
  have hep : (0 : Int) < (e8 : Int) := by omega
  have htq : Int.tdiv (n : Int) (v : Int) = (q : Int) := by rw [Int.tdiv_eq_ediv_of_nonneg (by omega)]; exact hq
  have hvn : (v : Int) ≠ 0 := by omega
  have hvp : (0 : Int) < (v : Int) := by omega
  obtain ⟨r, hr⟩ : ∃ r, bs b q = r := ⟨_, rfl⟩
  obtain ⟨t, htt⟩ : ∃ t, bs b (7 - q) = t := ⟨_, rfl⟩
  have G1 : Hid (∀ w, Calls Tryd.prog 4 #[.int .u8 (b : Int), .bool true, .int .i64 (v : Int), .int .i64 (n : Int)] w fun e w' => e = .returned (.bool r) ∧ w' = w) := (fun w => hr ▸ Graph b true v n q w (by omega) (by omega) (by omega) hq lq : ∀ w, Calls Tryd.prog 4 #[.int .u8 (b : Int), .bool true, .int .i64 (v : Int), .int .i64 (n : Int)] w fun e w' => e = .returned (.bool r) ∧ w' = w)
  have G2 : Hid (∀ w, Calls Tryd.prog 4 #[.int .u8 (b : Int), .bool false, .int .i64 (v : Int), .int .i64 (m : Int)] w fun e w' => e = .returned (.bool r) ∧ w' = w) := (fun w => by
    have := Graph b false v m (7 - q) w (by omega) (by omega) (by omega) hq2 (by omega)
    rw [show gr false (7 - q) = q by unfold gr; simp; omega, hr] at this
    exact this : ∀ w, Calls Tryd.prog 4 #[.int .u8 (b : Int), .bool false, .int .i64 (v : Int), .int .i64 (m : Int)] w fun e w' => e = .returned (.bool r) ∧ w' = w)
  have G3 : Hid (∀ w, Calls Tryd.prog 4 #[.int .u8 (b : Int), .bool false, .int .i64 (v : Int), .int .i64 (n : Int)] w fun e w' => e = .returned (.bool t) ∧ w' = w) := (fun w => by
    have := Graph b false v n q w (by omega) (by omega) (by omega) hq lq
    rw [show gr false q = 7 - q from rfl, htt] at this
    exact this : ∀ w, Calls Tryd.prog 4 #[.int .u8 (b : Int), .bool false, .int .i64 (v : Int), .int .i64 (n : Int)] w fun e w' => e = .returned (.bool t) ∧ w' = w)
  have G4 : Hid (∀ w, Calls Tryd.prog 4 #[.int .u8 (b : Int), .bool false, .int .i64 1, .int .i64 (q : Int)] w fun e w' => e = .returned (.bool t) ∧ w' = w) := (fun w => by
    have := Graph b false 1 q q w (by omega) (by omega) (by omega) (Int.ediv_one _) lq
    rw [show gr false q = 7 - q from rfl, htt] at this
    exact this : ∀ w, Calls Tryd.prog 4 #[.int .u8 (b : Int), .bool false, .int .i64 1, .int .i64 (q : Int)] w fun e w' => e = .returned (.bool t) ∧ w' = w)
  have HT : Hid (Tab W) := ht
  have lvv := lv.2
  have le8 : e8 ≤ 64 := by omega
  have lmm : m ≤ 64 := by omega
  have v1 : ((v : Int) == 0) = false := beq_eq_false_iff_ne.2 hvn
  have v2 : ((v : Int) == -1) = false := beq_eq_false_iff_ne.2 (by omega)
  have v3 : (v : Int) ≠ -1 := by omega
  have v4 : ¬ v = 0 := by omega
  have k1 : IntKind.i64.wrap (e8 : Int) = e8 := by rw [IntKind.wrap_i64]; omega
  have k2 : IntKind.i64.wrap ((e8 : Int) - 1) = (e8 : Int) - 1 := by rw [IntKind.wrap_i64]; omega
  have k3 : IntKind.i64.wrap (m : Int) = m := by rw [IntKind.wrap_i64]; omega
  have k4 : IntKind.i64.wrap (q : Int) = q := by rw [IntKind.wrap_i64]; omega
  have k5 : IntKind.i64.wrap (n : Int) = n := by rw [IntKind.wrap_i64]; omega
  have ly : y ≤ 255 := by omega
  have lz : z ≤ 255 := by omega
  have lv1 := lv.1
  clear h0 h1 h2 w0 w1 w2 hr htt hnz hqn hq2 hq3 ht hev lv hem
  go_enter Tryd.func3, Tryd.ntmps3
  go_wp2
  go_region_held3 (fun _ => True) (trivial) (first
    | (go_at_call 4; with_reducible refine (G1.out _).mono ?_; rintro e w1 ⟨rfl, rfl⟩)
    | (go_at_call 4; with_reducible refine (G2.out _).mono ?_; rintro e w1 ⟨rfl, rfl⟩)
    | (go_at_call 4; with_reducible refine (G3.out _).mono ?_; rintro e w1 ⟨rfl, rfl⟩)
    | (go_at_call 4; with_reducible refine (G4.out _).mono ?_; rintro e w1 ⟨rfl, rfl⟩)
    | (go_at_call 5; refine (awake18 _ (by first | exact HT.out | exact HT.out.below (below_drewN (Below.refl _ _) _) (Nat.le_refl _))).mono ?_; rintro e w2 ⟨rfl, hB'⟩; have HB : Hid (Below W.heap.size W w2) := (by first | exact hB' | exact b_keep (below_drewN (Below.refl _ W) _) hB'); clear hB'))
  all_goals go_wp2
  all_goals go_returns
  all_goals exact ⟨rfl, by first | exact HB.out | exact below_drewN HB.out _⟩

end Go.Proofs.YtkondnlilkpdoabDoor.fieldFlips
