/- What Starts tells: the counts that start, sorted. -/
import Derived.Test.YtienmoannnhhmaaDoorSpr1
import Derived.Test.YtienmoannnhhmaaDoorLays8
import Derived.Maps.RangeWalk
import Derived.Sort.OwnSorted
import Derived.Sort.OwnSortedInts
import Derived.OwnWalk
import Derived.ProofKit
import Derived.OpenShut
import Derived.WalkLawsBesides
import Derived.Maps.AppendAt
import Derived.WalkSmall
import Derived.Handy
set_option linter.unusedVariables false
namespace Go.Proofs.YtienmoannnhhmaaDoor.Sp
open Go.RowKit Go.Maps Go.Sort Go.Shelf

/-- The counts that start, by a number of copies. -/
def stL (c : Nat) : List Nat := [0, 16, 32, 64].filter (fun n => stB n c)
def stI (c : Nat) : List Int := (stL c).map (fun n : Nat => (n : Int))

/-- Which keys are among the counts. -/
theorem startD_key {x c' : Int} (h : ∀ zd, startD.atKey (.int .i64 x) zd = .lit (.int .u8 c')) : (x = 0 ∧ c' = 255) ∨ (x = 16 ∧ c' = 10) ∨ (x = 32 ∧ c' = 76) ∨ (x = 64 ∧ c' = 80) := by
  have h1 := h .nil
  rw [startD_is] at h1
  unfold DataW.atKey at h1
  by_cases h0 : x = 0
  · subst h0; simp [Lit.sameKey] at h1; omega
  by_cases h16 : x = 16
  · subst h16; simp [Lit.sameKey] at h1; omega
  by_cases h32 : x = 32
  · subst h32; simp [Lit.sameKey] at h1; omega
  by_cases h64 : x = 64
  · subst h64; simp [Lit.sameKey] at h1; omega
  have e0 : ¬ (0 : Int) = x := by omega
  have e1 : ¬ (16 : Int) = x := by omega
  have e2 : ¬ (32 : Int) = x := by omega
  have e3 : ¬ (64 : Int) = x := by omega
  simp [Lit.sameKey, e0, e1, e2, e3] at h1

/-- What has been collected: just those counts that start and are no longer to come. -/
structure Col (c : Nat) (left : Lit → Bool) (L : List Int) : Prop where
  nd : L.Nodup
  mem : ∀ y : Int, y ∈ L ↔ (∃ n : Nat, n ∈ [0, 16, 32, 64] ∧ y = (n : Int) ∧ stB n c = true) ∧ left (.int .i64 y) = false
theorem Col.start (c : Nat) : Col c (Maps.has startD) [] := by
  refine ⟨List.nodup_nil, fun y => ⟨fun h => absurd h (by simp), fun h => ?_⟩⟩
  obtain ⟨⟨n, hn, rfl, _⟩, h2⟩ := h
  rw [startD_is] at h2
  simp at hn
  rcases hn with rfl | rfl | rfl | rfl <;> exact absurd h2 (by decide)
theorem Col.step_yes {c : Nat} {left : Lit → Bool} {L : List Int} (h : Col c left L) {n : Nat} (hn : n ∈ [0, 16, 32, 64]) (hl : left (.int .i64 (n : Int)) = true) (hs : stB n c = true) :
    Col c (fun z => left z && !z.sameKey (.int .i64 (n : Int))) (L ++ [(n : Int)]) := by
  have hnm : (n : Int) ∉ L := fun hm => by have := ((h.mem _).1 hm).2; rw [hl] at this; cases this
  refine ⟨List.nodup_append.2 ⟨h.nd, by simp, fun a ha b hb => by simp at hb; subst hb; exact fun e => hnm (e ▸ ha)⟩, fun y => ?_⟩
  rw [List.mem_append, List.mem_singleton, h.mem]
  by_cases hy : y = (n : Int)
  · subst hy
    exact ⟨fun _ => ⟨⟨n, hn, rfl, hs⟩, by simp [Lit.sameKey]⟩, fun _ => .inr rfl⟩
  · simp [Lit.sameKey, hy]
theorem Col.step_no {c : Nat} {left : Lit → Bool} {L : List Int} (h : Col c left L) {n : Nat} (hs : stB n c = false) :
    Col c (fun z => left z && !z.sameKey (.int .i64 (n : Int))) L := by
  refine ⟨h.nd, fun y => ?_⟩
  rw [h.mem]
  by_cases hy : y = (n : Int)
  · subst hy
    constructor
    · rintro ⟨⟨m, _, e, hm⟩, _⟩
      obtain rfl : n = m := by omega
      rw [hs] at hm; cases hm
    · rintro ⟨⟨m, _, e, hm⟩, _⟩
      obtain rfl : n = m := by omega
      rw [hs] at hm; cases hm
  · simp [Lit.sameKey, hy]
theorem Col.perm {c : Nat} {left : Lit → Bool} {L : List Int} (h : Col c left L) (hl : ∀ z, left z = false) : L.Perm (stI c) := by
  refine (List.perm_ext_iff_of_nodup h.nd ?_).2 fun y => ?_
  · unfold stI stL
    refine List.pairwise_map.2 (((by decide : ([0, 16, 32, 64] : List Nat).Pairwise (· ≠ ·)).filter _).imp (fun {a b} hab e => hab (by omega)))
  · rw [h.mem]
    unfold stI stL
    simp only [List.mem_map, List.mem_filter]
    constructor
    · rintro ⟨⟨n, hn, e, hs⟩, _⟩; exact ⟨n, ⟨hn, hs⟩, e.symm⟩
    · rintro ⟨n, ⟨hn, hs⟩, e⟩; exact ⟨⟨n, hn, e.symm, hs⟩, hl _⟩
theorem stI_sorted (c : Nat) : (stI c).Pairwise (fun a b => (decide (a ≤ b)) = true) := by
  unfold stI stL
  exact List.pairwise_map.2 (((by decide : ([0, 16, 32, 64] : List Nat).Pairwise (· ≤ ·)).filter _).imp (fun {a b} hab => by simp; omega))
theorem Col.sort {c : Nat} {left : Lit → Bool} {L : List Int} (h : Col c left L) (hl : ∀ z, left z = false) : (L.mergeSort fun x y => decide (x ≤ y)) = stI c := by
  have hp := h.perm hl
  refine List.Perm.eq_of_pairwise (le := fun a b => decide (a ≤ b) = true) (fun a b _ _ h1 h2 => ?_) ?_ (stI_sorted c) ((List.mergeSort_perm L _).trans hp)
  · simp at h1 h2; omega
  · exact List.pairwise_mergeSort (fun a b c h1 h2 => by simp at *; omega) (fun a b => by simp; omega) L
theorem st0 (c : Nat) : stB 0 c = true := by
  have h : ∀ k, k < 8 → decide (255 / 2 ^ k % 2 = 1) = true := by decide
  exact h (c % 8) (Nat.mod_lt _ (by decide))
theorem key_of {x c' : Int} (h : ∀ zd, startD.atKey (.int .i64 x) zd = .lit (.int .u8 c')) : ∃ n : Nat, n ∈ [0, 16, 32, 64] ∧ x = (n : Int) ∧ c' = (whichN n : Int) := by
  rcases startD_key h with ⟨rfl, rfl⟩ | ⟨rfl, rfl⟩ | ⟨rfl, rfl⟩ | ⟨rfl, rfl⟩
  · exact ⟨0, by simp, rfl, rfl⟩
  · exact ⟨16, by simp, rfl, rfl⟩
  · exact ⟨32, by simp, rfl, rfl⟩
  · exact ⟨64, by simp, rfl, rfl⟩
theorem startD_size : Maps.size startD = 4 := by rw [startD_is]; rfl

set_option maxRecDepth 100000 in
set_option maxHeartbeats 2000000 in
theorem Starts (c : Nat) (w : World) (hc : c < 256) : Calls Tryd.prog 23 #[.int .u8 (c : Int)] w fun e w' => ∃ g cap, e = .returned (.slice (some ⟨g, 0, none⟩) (stI c).length cap) ∧ w.heap.size ≤ g ∧ cap ≤ 9223372036854775807 ∧ (stI c).length ≤ cap ∧ (∀ i x, (stI c)[i]? = some x → w'.cell? ⟨g, i, none⟩ = some (.int .i64 x)) ∧ Below w.heap.size w w' := by
  obtain ⟨i0, hi, hz0, hz1, hz2⟩ := info_parts (show (Tryd.prog.info? 3).map (fun i => (i.zero, i.size, i.bytes)) = some (some (.int .i64 0), 1, 8) by kernel_rfl)
  go_enter Tryd.func23, Tryd.ntmps23
  go_wp2_with (go_at_call 37; fail)
  refine (startCounts w).mono ?_
  rintro e w1 ⟨b, rfl, hown, hb, hB⟩
  have hbl := hown.lt
  go_wp2_with (first
    | (at_range; refine wpList_range_own _ rfl _ 67 rfl 3 5 keysI Tryd.underlying67 _ b 4 _ rfl hown ?_; intro w0 hrg0 hg0 hs0)
    | go_in)
  go_frame
  go_loopw [3] (fun v wr => ∃ (left : Lit → Bool) (cnt : Nat) (L : List Int), wr.ranges Tryd.prog 3 (plainElem Tryd.prog 5) b w1.heap.size 4 startD left cnt ∧ L.length + cnt ≤ 4 ∧
      wr.ownsRow w1.heap.size 3 1 v L.length (L.map (Value.int .i64)) ∧ Col c left L ∧ Below w1.heap.size w1 wr)
    (fun _ wr => wr.rangeLeft b w1.heap.size)
  case atStart => exact ⟨_, _, [], hrg0, by rw [startD_size]; simp, ⟨rfl, .inl ⟨rfl, rfl⟩⟩, Col.start c, (Below.refl _ _).grown hg0 (Nat.le_refl _) (fun j hj => by cases hj)⟩
  case round =>
    obtain ⟨left, cnt, L, hrg, hcs, hrow, hC, hnx⟩ := hrel
    go_wp2_with (first
      | (at_next; refine wpList_next_ranges_ii _ rfl _ rfl 3 5 .i64 .u8 keysI Tryd.underlying3 Tryd.underlying5 b w1.heap.size 4 _ _ _ rfl hrg ?_ ?_)
      | go_in)
    · intro hc0 hl0
      have hsort := hC.sort hl0
      have hlen : L.length = (stI c).length := (hC.perm hl0).length_eq
      rcases hrow.2 with ⟨hnil, h0⟩ | ⟨g, cap, cur, rfl, hbase, hbb, h1, h2, h3, h4⟩
      · exfalso
        have hm : (0 : Int) ∈ L := (hC.mem 0).2 ⟨⟨0, by simp, rfl, st0 c⟩, hl0 _⟩
        rw [List.length_eq_zero_iff] at h0
        rw [h0] at hm
        cases hm
      have hH : Holds (Value.int .i64) wr g 0 L.toArray := holds_of_blockI hbb (by simpa using h4)
      have hgl : g < wr.heap.size := (Array.getElem?_eq_some_iff.1 hbb).1
      have hcall := SortI g 0 cap L wr hH hgl (by omega)
      rw [hsort] at hcall
      have HF : Hid (w1.heap.size ≤ g ∧ cap ≤ maxLen ∧ L.length = (stI c).length ∧ L.length ≤ cap ∧ Below w1.heap.size w1 wr ∧ Below w.heap.size w w1) := ⟨hbase, h2, hlen, h1, hnx, hB⟩
      have HO : Hid (∀ nn os, (grow (putRow (Value.int .i64) (Sort.ahead wr nn) g 0 (stI c).toArray) os).ownsRow w1.heap.size 3 1 (.slice (some ⟨g, 0, none⟩) L.length cap) L.length ((stI c).map (Value.int .i64))) := fun nn os => ownsRow_sortedI hlen.symm hbase hbb h1 h2 h3
      clear hsort hlen hbase hbb h1 h2 h3 h4 hH hgl hrow hC hcs hrg hnx hl0 hc0 hrg0 hg0 hs0
      go_wp2_with (go_at_call 39; refine hcall.mono ?_; rintro e w' ⟨rfl, nn, os, rfl⟩)
      go_returns
      obtain ⟨f1, f2, f3, f4, f5, f6⟩ := HF.out
      have hs := f6.size
      refine ⟨g, cap, by rw [← f3]; rfl, by omega, by unfold maxLen at f2; omega, by omega, fun i x hx => ?_, f6.trans ((f5.grown (grownBy_sortedI _) f5.size (fun j hj => by cases hj; exact f1)).mono hs)⟩
      have hown' := HO.out nn os
      have hx' := (List.getElem?_eq_some_iff.1 hx).1
      have := hown'.cellAt i (by omega)
      rw [this, List.getElem?_map, hx]
      rfl
    · intro x c' w2 cnt2 hwx hwc hlx hat hrg2 hlt hg2 hs2 hen
      obtain ⟨n, hn, rfl, rfl⟩ := key_of hat
      have hrow2 := hrow.kept hg2 (Or.inr (row_ne_iter hrow hrg).symm)
      have hn2 := hnx.grown hg2 hnx.size (fun j hj => by cases hj; exact Nat.le_refl _)
      have hkl := whichN_lt n
      obtain ⟨st, hst⟩ : ∃ st, stB n c = st := ⟨_, rfl⟩
      have HST : Hid (ofB (whichN n) c = st ∧ stB n c = st) := ⟨hst, hst⟩
      obtain ⟨k, hk⟩ : ∃ k, whichN n = k := ⟨_, rfl⟩
      rw [hk] at hen hkl
      have HK : Hid (whichN n = k) := hk
      clear hs2 hst hat hwc hk
      have hof : ofB k c = st := by rw [← HK.out]; exact HST.out.1
      have HC : Hid (Col c left L ∧ n ∈ [0, 16, 32, 64] ∧ left (.int .i64 (n : Int)) = true ∧ L.length + cnt ≤ 4 ∧ cnt2 < cnt ∧ L.length ≤ 4) := ⟨hC, hn, hlx, hcs, hlt, by omega⟩
      have hL4 : L.length ≤ 4 := by omega
      have HM : Hid (w2.rangeLeft b w1.heap.size < wr.rangeLeft b w1.heap.size) := by show _ < _; rw [hrg2.left_eq, hrg.left_eq]; exact hlt
      clear hC hn hlx hcs hlt hwx
      cases st
      · go_wp2_with (first
          | (go_at_call 38; refine (isOf k c _ hkl hc).mono ?_; rintro e w' ⟨rfl, hw'⟩; rw [hw', hof]; clear hw' w')
          | go_in)
        go_roundw
        case rel => exact ⟨_, cnt2, L, hrg2, by have := HC.out; omega, hrow2, HC.out.1.step_no HST.out.2, hn2⟩
        case measure => exact HM.out
      · go_wp2_with (first
          | (go_at_call 38; refine (isOf k c _ hkl hc).mono ?_; rintro e w' ⟨rfl, hw'⟩; rw [hw', hof]; clear hw' w')
          | (at_builtin; refine wpList_append_own _ rfl _ _ 47 rfl w1.heap.size 3 i0 (.int .i64 0) 1 8 Tryd.underlying47 hi hz0 hz1 hz2 rfl (by decide) _ _ _ rfl (hrow2.alloc _) _ 1 1 [_] rfl rfl (cell_one_new _ _ _) (by simp [Value.oneCell']) (by unfold maxLen; omega) (by omega) (by have := hn2.size; simp; omega) ?_; intro v' w3 hown' hg3 hnil3; go_frame)
          | go_in)
        have hrg3 := (hrg2.alloc _).kept hg3 (row_ne_low hrow2 hbl) (row_ne_iter hrow2 hrg2)
        go_roundw
        case rel =>
          refine ⟨_, cnt2, L ++ [(n : Int)], hrg3, by have := HC.out; simp; omega, by simpa using hown', HC.out.1.step_yes HC.out.2.1 HC.out.2.2.1 HST.out.2, ?_⟩
          exact (hn2.alloc (by have := hn2.size; omega) _).grown hg3 (by have := hn2.size; simp; omega) (fun j hj => (hrow2.lt j hj).1)
        case measure =>
          have := HC.out.2.2.2.2.1
          rw [hrg3.left_eq, hrg.left_eq]; exact this

end Go.Proofs.YtienmoannnhhmaaDoor.Sp
