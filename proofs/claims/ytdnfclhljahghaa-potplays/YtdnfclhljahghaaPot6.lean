/- Whether words are within their ends. -/
import Derived.Test.YtdnfclhljahghaaPotM
namespace Go.Proofs.Ytdnfclhljahghaa.Po
open Go.RowKit
set_option linter.unusedVariables false

def bd (m x : Int) : Bool := decide (x < 0) || decide (m < x)

set_option maxRecDepth 100000 in
set_option maxHeartbeats 400000 in
theorem bad (g : Nat) (m x : Int) (w : World) (h : w.cell? ⟨g, 0, none⟩ = some (.int .i64 m)) : Calls Try.prog 77 #[.int .i64 x, .pointer (some ⟨g, 0, none⟩)] w fun e w' => e = .returned (.bool (bd m x)) ∧ w' = w := by
  by_cases hx : x < 0
  · have HE : Hid (true = bd m x) := (show true = bd m x by simp [bd, hx])
    go_enter Try.func77, Try.ntmps77
    go_wp2
    go_returns
    exact ⟨ret_bool HE.out, rfl⟩
  · have HE : Hid (decide (m < x) = bd m x) := (show decide (m < x) = bd m x by simp [bd, hx])
    go_enter Try.func77, Try.ntmps77
    go_wp2
    go_returns
    exact ⟨ret_bool HE.out, rfl⟩

set_option maxRecDepth 100000 in
set_option maxHeartbeats 1000000 in
theorem IndexFunc (g b off : Nat) (m : Int) (xs : List Int) (cap : Nat) (w : World) (hm : w.cell? ⟨g, 0, none⟩ = some (.int .i64 m)) (hn : xs.length ≤ cap) (hc : cap ≤ 100) (hx : ∀ (i : Nat) x, xs[i]? = some x → w.cell? ⟨b, off + i, none⟩ = some (.int .i64 x)) :
    Calls Try.prog 84 #[.slice (some ⟨b, off, none⟩) xs.length cap, .func (.func 77) #[] #[.pointer (some ⟨g, 0, none⟩)]] w fun e w' => ∃ r : Int, e = .returned (.int .i64 r) ∧ decide (0 ≤ r) = xs.any (bd m) ∧ w' = w := by
  have HM : Hid (w.cell? ⟨g, 0, none⟩ = some (.int .i64 m)) := hm
  have HX : Hid (∀ (i : Nat) x, xs[i]? = some x → w.cell? ⟨b, off + i, none⟩ = some (.int .i64 x)) := hx
  clear hm hx
  generalize hl : xs.length = n at *
  have HL : Hid (xs.length = n) := hl
  clear hl
  go_enter Try.func84, Try.ntmps84
  go_wp2
  go_loopw [8] (fun v wr => ∃ k : Nat, k ≤ n ∧ v = .int .i64 (k : Int) ∧ wr = w ∧ (∀ i x, i < k → xs[i]? = some x → bd m x = false)) (fun v _ => n - (intOf v).toNat)
  case atStart => exact ⟨0, by omega, rfl, rfl, fun i x hi => absurd hi (by omega)⟩
  case round =>
    obtain ⟨k, hk, rfl, rfl, hB⟩ := hrel
    have HB : Hid (∀ i x, i < k → xs[i]? = some x → bd m x = false) := hB
    clear hB
    by_cases hkn : k < n
    · obtain ⟨x, hxx⟩ : ∃ x, xs[k]? = some x := ⟨_, List.getElem?_eq_getElem (by rw [HL.out]; exact hkn)⟩
      have c0 := HX.out k x hxx
      have HXX : Hid (xs[k]? = some x) := hxx
      have k0 : (0 : Int) ≤ (k : Int) := by omega
      have k1 : (k : Int) < (n : Int) := by omega
      clear hxx
      obtain ⟨y, hy⟩ : ∃ y, bd m x = y := ⟨_, rfl⟩
      have HY : Hid (bd m x = y) := hy
      clear hy
      cases y
      · go_wp2_with (go_at_call 77; refine (bad g m x _ HM.out).mono ?_; rintro e w1 ⟨rfl, rfl⟩; rw [HY.out])
        go_roundw
        case rel => exact ⟨k + 1, hkn, by go_num, (by first | rfl | trivial), fun i z hi hz => by
          by_cases e : i = k
          · subst e
            rw [HXX.out] at hz
            obtain rfl := Option.some.inj hz
            exact HY.out
          · exact HB.out i z (by omega) hz⟩
        case measure => simp [intOf]; omega
      · go_wp2_with (go_at_call 77; refine (bad g m x _ HM.out).mono ?_; rintro e w1 ⟨rfl, rfl⟩; rw [HY.out])
        go_returns
        refine ⟨_, rfl, ?_, rfl⟩
        rw [show decide ((0 : Int) ≤ (k : Int)) = true by simp]
        exact (List.any_eq_true.2 ⟨x, List.mem_of_getElem? HXX.out, HY.out⟩).symm
    · have hkn' : k = n := by omega
      subst hkn'
      go_wp2
      go_returns
      refine ⟨_, rfl, ?_, rfl⟩
      rw [show decide ((0 : Int) ≤ -1) = false by decide]
      refine (List.any_eq_false.2 fun z hz => ?_).symm
      obtain ⟨i, hi⟩ := List.getElem?_of_mem hz
      have hi' := (List.getElem?_eq_some_iff.1 hi).1
      rw [HB.out i z (by rw [HL.out] at hi'; exact hi') hi]
      simp

set_option maxRecDepth 100000 in
set_option maxHeartbeats 1000000 in
theorem ContainsFunc (g b off : Nat) (m : Int) (xs : List Int) (cap : Nat) (w : World) (hm : w.cell? ⟨g, 0, none⟩ = some (.int .i64 m)) (hn : xs.length ≤ cap) (hc : cap ≤ 100) (hx : ∀ (i : Nat) x, xs[i]? = some x → w.cell? ⟨b, off + i, none⟩ = some (.int .i64 x)) :
    Calls Try.prog 76 #[.slice (some ⟨b, off, none⟩) xs.length cap, .func (.func 77) #[] #[.pointer (some ⟨g, 0, none⟩)]] w fun e w' => e = .returned (.bool (xs.any (bd m))) ∧ w' = w := by
  have HM : Hid (w.cell? ⟨g, 0, none⟩ = some (.int .i64 m)) := hm
  have HX : Hid (∀ (i : Nat) x, xs[i]? = some x → w.cell? ⟨b, off + i, none⟩ = some (.int .i64 x)) := hx
  clear hm hx
  go_enter Try.func76, Try.ntmps76
  go_wp2_with (go_at_call 84; refine (IndexFunc g b off m xs cap _ HM.out hn hc HX.out).mono ?_; rintro e w1 ⟨r, rfl, hr, rfl⟩)
  go_returns
  exact ⟨ret_bool (by first | rfl | exact hr), rfl⟩

set_option maxRecDepth 100000 in
set_option maxHeartbeats 1000000 in
theorem within (b off : Nat) (m : Int) (xs : List Int) (cap : Nat) (w : World) (hb : b < w.heap.size) (hn : xs.length ≤ cap) (hc : cap ≤ 100) (hx : ∀ (i : Nat) x, xs[i]? = some x → w.cell? ⟨b, off + i, none⟩ = some (.int .i64 x)) :
    Calls Try.prog 75 #[.int .i64 m, .slice (some ⟨b, off, none⟩) xs.length cap] w fun e w' => e = .returned (.bool (!xs.any (bd m))) ∧ Below w.heap.size w w' := by
  have HX : Hid (∀ (i : Nat) x, xs[i]? = some x → w.cell? ⟨b, off + i, none⟩ = some (.int .i64 x)) := hx
  clear hx
  go_enter Try.func75, Try.ntmps75
  go_wp2_with (go_at_call 76; refine (ContainsFunc w.heap.size b off m xs cap _ (new_cell w _ _).1 hn hc (fun i x h => old_cell _ (HX.out i x h))).mono ?_; rintro e w1 ⟨rfl, rfl⟩)
  go_returns
  exact ⟨rfl, by go_grown⟩

theorem sub {L : List Int} {off n i : Nat} {x : Int} (h : ((L.drop off).take n)[i]? = some x) : (L.map (Value.int .i64))[off + i]? = some (.int .i64 x) := by
  have h1 := (List.getElem?_eq_some_iff.1 h).1
  rw [List.length_take] at h1
  rw [List.getElem?_take_of_lt (by omega), List.getElem?_drop] at h
  rw [List.getElem?_map, h]
  rfl

/-- Are the words within their ends? -/
def wiB (w0 w1 w2 w3 w4 w5 w6 w7 w8 w9 w10 : Int) : Bool := !([w0, w1, w2, w3].any (bd 255)) && (!([w4].any (bd 511)) && !([w5, w6, w7, w8, w9, w10].any (bd 1)))

theorem wiB_iff {w0 w1 w2 w3 w4 w5 w6 w7 w8 w9 w10 : Int} : wiB w0 w1 w2 w3 w4 w5 w6 w7 w8 w9 w10 = true ↔ ((0 ≤ w0 ∧ w0 ≤ 255) ∧ (0 ≤ w1 ∧ w1 ≤ 255) ∧ (0 ≤ w2 ∧ w2 ≤ 255) ∧ (0 ≤ w3 ∧ w3 ≤ 255) ∧ (0 ≤ w4 ∧ w4 ≤ 511)) ∧ ((0 ≤ w5 ∧ w5 ≤ 1) ∧ (0 ≤ w6 ∧ w6 ≤ 1) ∧ (0 ≤ w7 ∧ w7 ≤ 1) ∧ (0 ≤ w8 ∧ w8 ≤ 1) ∧ (0 ≤ w9 ∧ w9 ≤ 1) ∧ (0 ≤ w10 ∧ w10 ≤ 1)) := by
  simp only [wiB, bd, List.any_cons, List.any_nil, Bool.or_false, Bool.and_eq_true, Bool.not_eq_true', Bool.or_eq_false_iff, decide_eq_false_iff_not, Int.not_lt, and_assoc]

set_option maxRecDepth 100000 in
set_option maxHeartbeats 2000000 in
theorem areWithin (w0 w1 w2 w3 w4 w5 w6 w7 w8 w9 w10 : Int) (w : World) : Calls Try.prog 63 #[.agg #[.int .i64 w0, .int .i64 w1, .int .i64 w2, .int .i64 w3, .int .i64 w4, .int .i64 w5, .int .i64 w6, .int .i64 w7, .int .i64 w8, .int .i64 w9, .int .i64 w10]] w fun e w' => e = .returned (.bool (wiB w0 w1 w2 w3 w4 w5 w6 w7 w8 w9 w10)) ∧ Below w.heap.size w w' := by
  obtain ⟨p, hp⟩ : ∃ p, [w0, w1, w2, w3].any (bd 255) = p := ⟨_, rfl⟩
  obtain ⟨q, hq⟩ : ∃ q, [w4].any (bd 511) = q := ⟨_, rfl⟩
  obtain ⟨r, hr⟩ : ∃ r, [w5, w6, w7, w8, w9, w10].any (bd 1) = r := ⟨_, rfl⟩
  have HE : Hid ((!p && (!q && !r)) = wiB w0 w1 w2 w3 w4 w5 w6 w7 w8 w9 w10) := (show (!p && (!q && !r)) = wiB w0 w1 w2 w3 w4 w5 w6 w7 w8 w9 w10 by unfold wiB; rw [hp, hq, hr])
  have HP : Hid ([w0, w1, w2, w3].any (bd 255) = p) := hp
  have HQ : Hid ([w4].any (bd 511) = q) := hq
  have HR : Hid ([w5, w6, w7, w8, w9, w10].any (bd 1) = r) := hr
  clear hp hq hr
  go_enter Try.func63, Try.ntmps63
  go_wp2_with (go_at_call 75; fail)
  generalize hwa : w.alloc _ = wa
  have HW : Hid (Row wa w.heap.size ([w0, w1, w2, w3, w4, w5, w6, w7, w8, w9, w10].map (.int .i64)) ∧ Below w.heap.size w wa ∧ w.heap.size < wa.heap.size) := by rw [← hwa]; exact ⟨Row.new w _ _, (Below.refl _ w).alloc (Nat.le_refl _) _, by simp⟩
  clear hwa
  generalize hBE : w.heap.size = B at HW ⊢
  have HBE : Hid (w.heap.size = B) := hBE
  clear hBE
  refine (within B 0 255 [w0, w1, w2, w3] 11 _ HW.out.2.2 (by simp) (by decide) (fun i x h => HW.out.1.at_ _ _ (sub (n := 4) (L := [w0, w1, w2, w3, w4, w5, w6, w7, w8, w9, w10]) h))).mono ?_
  rintro e wb ⟨rfl, hBb⟩
  have HB : Hid (Row wb B ([w0, w1, w2, w3, w4, w5, w6, w7, w8, w9, w10].map (.int .i64)) ∧ Below B w wb ∧ B < wb.heap.size) := ⟨HW.out.1.below (by simp) hBb, HW.out.2.1.trans (hBb.mono (by have := HW.out.2.2; omega)), by have := hBb.size; have := HW.out.2.2; omega⟩
  clear hBb HW
  rw [HP.out]
  cases p
  · go_wp2_with (go_at_call 75; fail)
    refine (within B 4 511 [w4] 7 _ HB.out.2.2 (by simp) (by decide) (fun i x h => HB.out.1.at_ _ _ (sub (n := 1) (L := [w0, w1, w2, w3, w4, w5, w6, w7, w8, w9, w10]) h))).mono ?_
    rintro e wc ⟨rfl, hBb⟩
    have HC : Hid (Row wc B ([w0, w1, w2, w3, w4, w5, w6, w7, w8, w9, w10].map (.int .i64)) ∧ Below B w wc ∧ B < wc.heap.size) := ⟨HB.out.1.below (by simp) hBb, HB.out.2.1.trans (hBb.mono (by have := HB.out.2.2; omega)), by have := hBb.size; have := HB.out.2.2; omega⟩
    clear hBb HB
    rw [HQ.out]
    cases q
    · go_wp2_with (go_at_call 75; fail)
      refine (within B 5 1 [w5, w6, w7, w8, w9, w10] 6 _ HC.out.2.2 (by simp) (by decide) (fun i x h => HC.out.1.at_ _ _ (sub (n := 6) (L := [w0, w1, w2, w3, w4, w5, w6, w7, w8, w9, w10]) h))).mono ?_
      rintro e wd ⟨rfl, hBb⟩
      have HD : Hid (Below B w wd) := HC.out.2.1.trans (hBb.mono (by have := HC.out.2.2; omega))
      clear hBb HC
      rw [HR.out]
      go_wp2
      go_returns
      exact ⟨ret_bool (by simpa using HE.out), by rw [HBE.out]; exact HD.out⟩
    · go_wp2
      go_returns
      exact ⟨ret_bool HE.out, by rw [HBE.out]; exact HC.out.2.1⟩
  · go_wp2
    go_returns
    exact ⟨ret_bool HE.out, by rw [HBE.out]; exact HB.out.2.1⟩

end Go.Proofs.Ytdnfclhljahghaa.Po
