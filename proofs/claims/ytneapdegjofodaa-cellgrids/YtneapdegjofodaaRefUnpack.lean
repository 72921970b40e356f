/- What the document's own Unpack comes to. -/
import Derived.Test.YtneapdegjofodaaRefRuns
namespace Go.Proofs.Ytneapdegjofodaa.Ref3
open Go.RowKit PackInt Unpack

/-- The row, if nothing is wrong; else none. -/
def outL (most : Int) (R : List (Int × Int)) : List Int := if runE (roomOf most) 0 R = 0 then expand R else []
theorem outL_no {most : Int} {R : List (Int × Int)} (h : runE (roomOf most) 0 R ≠ 0) : outL most R = [] := if_neg h
theorem outL_yes {most : Int} {R : List (Int × Int)} (h : runE (roomOf most) 0 R = 0) : outL most R = expand R := if_pos h

/-- One thing more. -/
theorem more_row {w wr w1 : World} {r v' : Value} {m : Nat} {xs : List Int} {x : Int} (hO : wr.ownsRow w.heap.size 3 1 r m (xs.map fun x => .int .i64 x)) (hB : Below w.heap.size w wr)
    (hg : (wr.alloc (.cells #[.int .i64 x] 3)).grownBy w1 r.ownBlock) (hO' : w1.ownsRow w.heap.size 3 1 v' (m + 1) ((xs.map fun x => .int .i64 x) ++ [.int .i64 x])) :
    w1.ownsRow w.heap.size 3 1 v' (m + 1) ((xs ++ [x]).map fun x => .int .i64 x) ∧ Below w.heap.size w w1 := by
  refine ⟨by rw [List.map_append]; exact hO', ?_⟩
  have hs := hB.size
  exact (hB.alloc hs _).grown hg (by simp; omega) (fun j e => (hO.lt j e).1)

set_option maxRecDepth 100000 in
set_option maxHeartbeats 4000000 in
theorem RUnpack (R : List (Int × Int)) (n : Nat) (most : Int) (ao : Option Addr) (cap b off : Nat) (w : World) (h : SeenR w ao cap b off R) (hn : n = R.length) (h0 : -9223372036854775808 ≤ most) (h1 : most ≤ 100000) (hn2 : n ≤ 100000) :
    Calls Try.prog 26 #[.slice ao n cap, .int .i64 most] w fun e w' => ∃ v, e = .returned (.tuple #[v, .int .i64 (runE (roomOf most) 0 R)]) ∧
      w'.ownsRow w.heap.size 3 1 v (outL most R).length ((outL most R).map fun x => .int .i64 x) ∧ Below w.heap.size w w' := by
  obtain ⟨i0, hi0, hz0, hz1, hz2⟩ := info_parts infoInt
  have HS : Hid (SeenR w ao cap b off R) := h
  have HN : Hid (n = R.length) := hn
  obtain ⟨rm, hrm⟩ : ∃ rm, rm = roomOf most := ⟨_, rfl⟩
  have hrm1 : (0 ≤ most ∧ rm = most) ∨ (most < 0 ∧ rm = 0) := by
    rw [hrm]
    by_cases hc : most < 0
    · exact .inr ⟨hc, roomOf_neg hc⟩
    · exact .inl ⟨by omega, roomOf_pos hc⟩
  have hrm0 : 0 ≤ rm ∧ rm ≤ 100000 ∧ most ≤ rm := by omega
  have HRM : Hid (rm = roomOf most) := hrm
  have HR1 : Hid ((0 ≤ most ∧ rm = most) ∨ (most < 0 ∧ rm = 0)) := hrm1
  obtain ⟨hr0, hr1, hr2⟩ := hrm0
  rw [← hrm]
  clear h hn hrm hrm1
  go_enter Try.func26, Try.ntmps26
  go_wp2
  go_loopw [6, 7] (fun v i wr => ∃ (k m : Nat), k ≤ n ∧ m = (expand (R.take k)).length ∧ (m : Int) ≤ rm ∧ i = .int .i64 (k : Int) ∧ runE rm 0 R = runE rm (m : Int) (R.drop k) ∧
      wr.ownsRow w.heap.size 3 1 v m ((expand (R.take k)).map fun x => .int .i64 x) ∧ Below w.heap.size w wr)
    (fun _ i _ => n - (intOf i).toNat)
  case atStart => exact ⟨0, 0, by omega, rfl, by omega, rfl, rfl, World.ownsRow_nil _ _ _ _, Below.refl _ _⟩
  case round =>
    obtain ⟨k, m, hk, hm, hmr, rfl, hE, hO, hB⟩ := hrel
    obtain ⟨W0, rfl⟩ : ∃ W0, W0 = wr := ⟨_, rfl⟩
    have HO : Hid (W0.ownsRow w.heap.size 3 1 u6 m ((expand (R.take k)).map fun x => .int .i64 x)) := hO
    have HB : Hid (Below w.heap.size w W0) := hB
    have HM : Hid (m = (expand (R.take k)).length) := hm
    have HE : Hid (runE rm 0 R = runE rm (m : Int) (R.drop k)) := hE
    obtain ⟨ao6, cap6, rfl⟩ := RingInt.slice_form hO
    have hsz := hB.size
    by_cases hl : k < n
    · obtain ⟨p, hp⟩ : ∃ p, R[k]? = some p := ⟨_, List.getElem?_eq_getElem (by rw [← HN.out]; exact hl)⟩
      have hne : R ≠ [] := fun e => by rw [e] at hp; cases hp
      have hao := HS.out.at_ hne
      subst hao
      have hbw := HS.out.lt hne
      obtain ⟨x, c⟩ := p
      have hcells : ∀ w', Below w.heap.size w w' → w'.cell? ⟨b, off + k * 2, none⟩ = some (.int .i64 x) ∧ w'.cell? ⟨b, off + k * 2 + 1, none⟩ = some (.int .i64 c) := fun w' hb =>
        ⟨(hb.cell (p := ⟨b, off + k * 2, none⟩) hbw).trans (HS.out.cell k _ hp).1, (hb.cell (p := ⟨b, off + k * 2 + 1, none⟩) hbw).trans (HS.out.cell k _ hp).2⟩
      have HCE : Hid (∀ w', Below w.heap.size w w' → w'.cell? ⟨b, off + k * 2, none⟩ = some (.int .i64 x) ∧ w'.cell? ⟨b, off + k * 2 + 1, none⟩ = some (.int .i64 c)) := hcells
      obtain ⟨c0, c1⟩ := hcells W0 hB
      have HR : Hid (runE rm (m : Int) (R.drop k) = (if c < 1 then 6 else if rm - (m : Int) < c then 13 else runE rm ((m : Int) + c) (R.drop (k + 1)))) := runE_drop hp
      have HT : Hid (expand (R.take (k + 1)) = expand (R.take k) ++ List.replicate c.toNat x) := expand_take hp
      have k0' : (0 : Int) ≤ (k : Int) := by omega
      have k1' : (k : Int) < (n : Int) := by omega
      clear hE hO hB hp hne hm hcells
      by_cases hc1 : c < 1
      · have HF : Hid (runE rm 0 R = 6) := by show _ = _; rw [HE.out, HR.out, if_pos hc1]
        go_wp2
        go_ret2
        refine ⟨_, by rw [HF.out]; rfl, ?_, HB.out⟩
        rw [outL_no (by rw [← HRM.out, HF.out]; decide)]
        exact World.ownsRow_nil _ _ _ _
      · obtain ⟨d, hd⟩ := Int.eq_ofNat_of_zero_le (show 0 ≤ c by omega)
        subst hd
        have hd1 : 1 ≤ d := by omega
        clear hc1
        go_wp2
        go_loopw [6, 8] (fun v i wi => ∃ (j mj : Nat), j ≤ d ∧ mj = m + j ∧ (mj : Int) ≤ rm ∧ i = .int .i64 (j : Int) ∧
            wi.ownsRow w.heap.size 3 1 v mj ((expand (R.take k) ++ List.replicate j x).map fun x => .int .i64 x) ∧ Below w.heap.size w wi)
          (fun _ i _ => d - (intOf i).toNat)
        case atStart => exact ⟨0, m, by omega, rfl, hmr, rfl, by simpa using HO.out, HB.out⟩
        case round =>
          obtain ⟨j, mj, hj, hmj, hmjr, rfl, hOi, hBi⟩ := hrel
          have HOi : Hid (wr.ownsRow w.heap.size 3 1 u6 mj ((expand (R.take k) ++ List.replicate j x).map fun x => .int .i64 x)) := hOi
          have HBi : Hid (Below w.heap.size w wr) := hBi
          have HMj : Hid (mj = m + j) := hmj
          obtain ⟨ao7, cap7, rfl⟩ := RingInt.slice_form hOi
          obtain ⟨d0, d1⟩ := HCE.out wr hBi
          have hsi := hBi.size
          have hmj' : mj ≤ 100000 := by omega
          have hj5 : j ≤ 100000 := by omega
          by_cases hjl : j < d
          · by_cases hfull : most ≤ (mj : Int)
            · have HF : Hid (runE rm 0 R = 13) := by
                show _ = _
                have hlt : rm - (m : Int) < (d : Int) := by have := HR1.out; omega
                rw [HE.out, HR.out, if_neg (by omega), if_pos hlt]
              clear hOi hBi hmj
              go_wp2
              go_ret2
              refine ⟨_, by rw [HF.out]; rfl, ?_, HBi.out⟩
              rw [outL_no (by rw [← HRM.out, HF.out]; decide)]
              exact World.ownsRow_nil _ _ _ _
            · have hfl : (mj : Int) < most := by omega
              clear hOi hBi hmj hfull
              go_wp2_with (at_builtin; refine wpList_append_own _ rfl _ _ 29 rfl w.heap.size 3 i0 (.int .i64 0) 1 8 Try.underlying29 hi0 hz0 hz1 hz2 rfl (by decide) _ _ _ rfl (World.ownsRow.alloc (show World.ownsRow _ _ _ _ _ _ _ from HOi.out) _) _ 1 1 [_] rfl rfl (cell_one_new _ _ _) (by simp [Value.oneCell']) (by unfold maxLen; omega) (by omega) (by simp; omega) ?_; intro v' w1 hown' hgrow _)
              obtain ⟨r1, r2⟩ := more_row HOi.out HBi.out hgrow hown'
              go_roundw
              case rel => exact ⟨j + 1, mj + 1, by omega, by have := HMj.out; omega, by omega, by go_num, by rw [List.replicate_succ', ← List.append_assoc]; exact r1, r2⟩
              case measure => simp [intOf]; omega
          · have hjd : j = d := by omega
            subst hjd
            have HOj : Hid (wr.ownsRow w.heap.size 3 1 (.slice ao7 mj cap7) mj ((expand (R.take (k + 1))).map fun x => .int .i64 x)) := by
              have e := HT.out
              rw [Int.toNat_natCast] at e
              rw [e]; exact HOi.out
            have HMk : Hid (mj = (expand (R.take (k + 1))).length) := by
              have e := HT.out
              rw [Int.toNat_natCast] at e
              show _ = _
              rw [e, HMj.out, HM.out]; simp
            have HF : Hid (runE rm 0 R = runE rm (mj : Int) (R.drop (k + 1))) := by
              show _ = _
              rw [HE.out, HR.out, if_neg (by omega), if_neg (by omega), show (mj : Int) = (m : Int) + (j : Int) from by omega]
            clear hOi hBi hmj
            go_wp2
            go_roundw
            case rel => exact ⟨k + 1, mj, by omega, HMk.out, hmjr, by go_num, HF.out, HOj.out, HBi.out⟩
            case measure => simp [intOf]; omega
    · have hkn : k = n := by omega
      subst hkn
      have HF : Hid (runE rm 0 R = 0) := by
        show _ = _
        rw [HE.out, HN.out, List.drop_length]; rfl
      have HOj : Hid (W0.ownsRow w.heap.size 3 1 (.slice ao6 m cap6) (outL most R).length ((outL most R).map fun x => .int .i64 x)) := by
        have := HO.out
        rw [HN.out, List.take_length] at this
        rw [outL_yes (by rw [← HRM.out]; exact HF.out)]
        have hml : m = (expand R).length := by rw [HM.out, HN.out, List.take_length]
        rw [← hml]; exact this
      clear hO hB hm hE
      go_wp2
      go_ret2
      exact ⟨_, by rw [HF.out]; rfl, HOj.out, HB.out⟩

end Go.Proofs.Ytneapdegjofodaa.Ref3
