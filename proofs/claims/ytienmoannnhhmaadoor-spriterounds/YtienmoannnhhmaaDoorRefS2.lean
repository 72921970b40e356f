/- The document's Starts; how often a thing starts on its way round. -/
import Derived.Test.YtienmoannnhhmaaDoorRefS
set_option linter.unusedVariables false
namespace Go.Proofs.YtienmoannnhhmaaDoor.Sp
open Go.RowKit

theorem stB_in {n c : Nat} (h : stB n c = true) : n ∈ [0, 16, 32, 64] := by
  rw [stB_cases] at h
  simp only [List.mem_cons, List.not_mem_nil, or_false]
  by_cases h0 : n = 0
  · exact .inl h0
  by_cases h1 : n = 16
  · exact .inr (.inl h1)
  by_cases h2 : n = 32
  · exact .inr (.inr (.inl h2))
  by_cases h3 : n = 64
  · exact .inr (.inr (.inr h3))
  rw [if_neg h0, if_neg h1, if_neg h2, if_neg h3] at h
  cases h
theorem range_starts : (List.range 160).filter (fun n => decide (n ∈ [0, 16, 32, 64])) = [0, 16, 32, 64] := by decide +kernel
theorem stL_range (c : Nat) : (List.range 160).filter (fun n => stB n c) = stL c := by
  unfold stL
  rw [← range_starts, List.filter_filter]
  congr 1
  funext n
  by_cases h : stB n c = true
  · rw [h, decide_eq_true (stB_in h)]; rfl
  · simp only [Bool.not_eq_true] at h; rw [h]; rfl
/-- The starts below k. -/
def stK (c k : Nat) : List Int := ((List.range k).filter (fun n => stB n c)).map (fun n : Nat => (n : Int))
theorem stK_yes {c k : Nat} (h : stB k c = true) : stK c (k + 1) = stK c k ++ [(k : Int)] := by
  unfold stK
  rw [List.range_succ, List.filter_append, List.map_append]
  simp [h]
theorem stK_no {c k : Nat} (h : stB k c = false) : stK c (k + 1) = stK c k := by
  unfold stK
  rw [List.range_succ, List.filter_append, List.map_append]
  simp [h]
theorem stK_all (c : Nat) : stK c 160 = stI c := by unfold stK stI; rw [stL_range]
theorem stK_le (c k : Nat) : (stK c k).length ≤ k := by
  unfold stK
  rw [List.length_map]
  exact Nat.le_trans (List.length_filter_le _ _) (by simp)

set_option maxRecDepth 100000 in
set_option maxHeartbeats 2000000 in
theorem RStarts (c : Nat) (w : World) (hc : c < 256) : Calls Tryd.prog 24 #[.int .i64 (c : Int)] w fun e w' => ∃ ao cap g, e = .returned (.slice ao (stI c).length cap) ∧ Seen (fun x => .int .i64 x) w' ao cap g 0 (stI c) ∧ Below w.heap.size w w' := by
  obtain ⟨i0, hi, hz0, hz1, hz2⟩ := info_parts (show (Tryd.prog.info? 3).map (fun i => (i.zero, i.size, i.bytes)) = some (some (.int .i64 0), 1, 8) by kernel_rfl)
  go_enter Tryd.func24, Tryd.ntmps24
  go_wp2
  go_loopw [3, 4] (fun v i wr => ∃ k : Nat, k ≤ 160 ∧ i = .int .i64 (k : Int) ∧ wr.ownsRow w.heap.size 3 1 v (stK c k).length ((stK c k).map (Value.int .i64)) ∧ Below w.heap.size w wr) (fun _ i _ => 160 - (intOf i).toNat)
  case atStart => exact ⟨0, by omega, rfl, ⟨rfl, .inl ⟨rfl, rfl⟩⟩, Below.refl _ _⟩
  case round =>
    obtain ⟨k, hk, rfl, hrow, hB⟩ := hrel
    by_cases hl : k < 160
    · have hle := stK_le c k
      obtain ⟨st, hst⟩ : ∃ st, stB k c = st := ⟨_, rfl⟩
      have HST : Hid (stB k c = st) := hst
      clear hst
      cases st
      · go_wp2_with (go_at_call 35; refine (RStart k c _ (by omega) hc).mono ?_; rintro e w' ⟨rfl, hw'⟩; rw [hw', HST.out]; clear hw' w')
        go_roundw
        case rel => exact ⟨k + 1, by omega, by go_num, by rw [stK_no HST.out]; exact hrow, hB⟩
        case measure => simp [intOf]; omega
      · go_wp2_with (first
          | (go_at_call 35; refine (RStart k c _ (by omega) hc).mono ?_; rintro e w' ⟨rfl, hw'⟩; rw [hw', HST.out]; clear hw' w')
          | (at_builtin; refine wpList_append_own _ rfl _ _ 47 rfl w.heap.size 3 i0 (.int .i64 0) 1 8 Tryd.underlying47 hi hz0 hz1 hz2 rfl (by decide) _ _ _ rfl (hrow.alloc _) _ 1 1 [_] rfl rfl (cell_one_new _ _ _) (by simp [Value.oneCell']) (by unfold maxLen; omega) (by omega) (by have := hB.size; simp; omega) ?_; intro v' w3 hown' hg3 hnil3; go_frame)
          | go_in)
        go_roundw
        case rel => exact ⟨k + 1, by omega, by go_num, by rw [stK_yes HST.out]; simpa using hown', (hB.alloc hB.size _).grown hg3 (by have := hB.size; simp; omega) (fun j hj => (hrow.lt j hj).1)⟩
        case measure => simp [intOf]; omega
    · have hk160 : k = 160 := by omega
      subst hk160
      rw [stK_all] at hrow
      obtain ⟨ao, cap, g, hv, hSn, _⟩ := Seen.own (c := fun x : Int => Value.int .i64 x) (xs := stI c) hrow (fun ao n cap hv => by
        rcases hrow.2 with ⟨h1, h2⟩ | ⟨g, cap', cur, h1, _, hh, hn, hm, _⟩
        · rw [h1] at hv; cases hv; omega
        · rw [h1] at hv; cases hv; unfold maxLen at hm; omega)
      subst hv
      go_wp2
      go_returns
      exact ⟨ao, cap, g, rfl, hSn, hB⟩

/-- How often f holds at k places from a on, going round. -/
def cir (f : Nat → Nat) (a : Nat) : Nat → Nat
  | 0 => 0
  | k + 1 => cir f a k + f ((a + k) % 160)
theorem cir_succ (f : Nat → Nat) (a k : Nat) : cir f a (k + 1) = cir f a k + f ((a + k) % 160) := rfl
theorem cir_shift (f : Nat → Nat) (a : Nat) : ∀ k, cir f (a + 1) k + f (a % 160) = cir f a (k + 1)
  | 0 => by simp [cir]
  | k + 1 => by
    have h := cir_shift f a k
    rw [cir_succ f (a + 1) k, cir_succ f a (k + 1), ← h, show a + 1 + k = a + (k + 1) by omega]
    omega
theorem cir_nextN (f : Nat → Nat) (a n : Nat) (hn : n = 160) : cir f (a + 1) n = cir f a n := by
  have h := cir_shift f a n
  rw [cir_succ] at h
  have h2 : (a + n) % 160 = a % 160 := by subst hn; exact Nat.add_mod_right a 160
  rw [h2] at h
  omega
theorem cir_allN (f : Nat → Nat) (n : Nat) (hn : n = 160) : ∀ a, cir f a n = cir f 0 n
  | 0 => rfl
  | a + 1 => by rw [cir_nextN f a n hn, cir_allN f n hn a]
theorem cir_all (f : Nat → Nat) (a : Nat) : cir f a 160 = cir f 0 160 := cir_allN f 160 rfl a
theorem cir_stK (c : Nat) : ∀ k, k ≤ 160 → cir (fun n => (stB n c).toNat) 0 k = (stK c k).length
  | 0, _ => rfl
  | k + 1, h => by
    rw [cir_succ, cir_stK c k (by omega), Nat.zero_add, Nat.mod_eq_of_lt (by omega)]
    cases hs : stB k c
    · rw [stK_no hs]; rfl
    · rw [stK_yes hs, List.length_append]; rfl
theorem cir_starts (c a : Nat) : cir (fun n => (stB n c).toNat) a 160 = (stI c).length := by rw [cir_all, cir_stK c 160 (Nat.le_refl _), stK_all]
theorem cir_le (f : Nat → Nat) (hf : ∀ n, f n ≤ 1) (a : Nat) : ∀ k, cir f a k ≤ k
  | 0 => Nat.le_refl _
  | k + 1 => by have := cir_le f hf a k; have := hf ((a + k) % 160); rw [cir_succ]; omega

end Go.Proofs.YtienmoannnhhmaaDoor.Sp
