/- The document's Find. -/
import Derived.Test.YtcbfhjgdnffjlaaDoorFindsM
namespace Go.Proofs.YtcbfhjgdnffjlaaDoor.Co
open Go.RowKit

set_option maxRecDepth 100000 in
set_option maxHeartbeats 8000000 in
theorem RFind (s : ByteArray) (m : Nat) (w : World) : Calls Tryd.prog 15 #[.string s, .int .i64 (m : Int)] w fun e w' => e = .returned (.int .i64 (outF (bl s) m codes)) ∧ Below w.heap.size w w' := by
  have hfk := fieldKnown
  go_enter Tryd.func15, Tryd.ntmps15
  go_wp2
  go_loopw [5, 6] (fun vo vi wr => ∃ i : Int, -1 ≤ i ∧ i ≤ 255 ∧ vi = .int .i64 i ∧ vo = .int .i64 (outF (bl s) m (codes.drop (i + 1).toNat)) ∧ Below w.heap.size w wr) (fun _ vi _ => (intOf vi + 1).toNat)
  case atStart => exact ⟨255, by omega, by omega, rfl, by rw [show (255 + 1 : Int).toNat = 256 by decide, List.drop_of_length_le (by rw [codes_length]; omega)]; rfl, Below.refl _ _⟩
  case round =>
    obtain ⟨i, hi0, hi1, rfl, rfl, hB⟩ := hrel
    by_cases hl : 0 ≤ i
    · obtain ⟨j, rfl⟩ := Int.eq_ofNat_of_zero_le hl
      rw [show ((j : Int) + 1).toNat = j + 1 by omega]
      have hj : j < 256 := by omega
      have HD : Hid (codes.drop ((j : Int) - 1 + 1).toNat = ⟨j, hj⟩ :: codes.drop (j + 1)) := by
        show _ = _
        rw [show ((j : Int) - 1 + 1).toNat = j by omega]
        exact codes_drop j hj
      obtain ⟨L, HL⟩ : ∃ L, Hid (codes.drop (j + 1) = L) := ⟨_, (rfl : _ = _)⟩
      rw [HL.out] at HD ⊢
      have ho := outF_le (bl s) m L
      have HE : Hid (((nameB j).toList == s.toList) = decide (bl (nameB j) = bl s)) := bl_beq _ _
      have HI : Hid (hit (bl s) m ⟨j, hj⟩ = (decide (bl (nameB j) = bl s) && decide (modeN j = m))) := (rfl : _ = _)
      have HB : Hid (Below w.heap.size w wr) := hB
      have HO : Hid (∀ w, Calls Tryd.prog 8 #[.int .i64 (j : Int)] w fun e w' => e = .returned (.agg #[.string (nameB j), .int .i64 (modeN j : Int), .int .i64 (kindN j), .bool (knownB j)]) ∧ Below w.heap.size w w') := fun w => ROfS j _ w hj rfl
      clear hB hl
      cases hnm : ((nameB j).toList == s.toList)
      · have HX : Hid (outF (bl s) m (⟨j, hj⟩ :: L) = outF (bl s) m L) := out_skip (by rw [HI.out, ← HE.out, hnm]; rfl)
        go_wp2_with (go_at_call 8; refine (HO.out _).mono ?_; rintro e w2 ⟨rfl, hB2⟩)
        go_roundw
        case rel => exact ⟨(j : Int) - 1, by omega, by omega, rfl, by rw [HD.out, HX.out], (HB.out.trans (hB2.mono HB.out.size)).alloc (by have := HB.out.size; have := hB2.size; omega) _⟩
        case measure => simp [intOf] <;> omega
      by_cases hmd : modeN j = m
      · have hmb : (((modeN j : Nat) : Int) == (m : Int)) = true := by simp; omega
        have HH : Hid (hit (bl s) m ⟨j, hj⟩ = true) := by show _ = _; rw [HI.out, ← HE.out, hnm, decide_eq_true hmd]; rfl
        have HK : Hid (known (bl s) m ⟨j, hj⟩ = knownB j) := known_hit HH.out
        clear hmd
        by_cases hneg : outF (bl s) m L < 0
        · have HX : Hid (outF (bl s) m (⟨j, hj⟩ :: L) = (j : Int)) := by
            show _ = _
            cases hk : known (bl s) m ⟨j, hj⟩
            · exact out_take HH.out hk (out_none hneg)
            · exact out_known hk
          go_wp2_with (go_at_call 8; refine (HO.out _).mono ?_; rintro e w2 ⟨rfl, hB2⟩)
          go_roundw
          case rel => exact ⟨(j : Int) - 1, by omega, by omega, rfl, by rw [HD.out, HX.out], (HB.out.trans (hB2.mono HB.out.size)).alloc (by have := HB.out.size; have := hB2.size; omega) _⟩
          case measure => simp [intOf] <;> omega
        · have hnb : decide (outF (bl s) m L < 0) = false := decide_eq_false hneg
          obtain ⟨y, hy, hy2, hyk⟩ := out_is (l := bl s) (m := m) (L := L) (by omega)
          have HO2 : Hid (∀ w, Calls Tryd.prog 8 #[.int .i64 (outF (bl s) m L)] w fun e w' => e = .returned (.agg #[.string (nameB y), .int .i64 (modeN y : Int), .int .i64 (kindN y), .bool (outK (bl s) m L)]) ∧ Below w.heap.size w w') := fun w => by
            have := ROfS y _ w hy2 hy
            rw [hyk] at this
            exact this
          clear hy hy2 hyk hneg
          cases hkj : knownB j
          · have HKn : Hid (known (bl s) m ⟨j, hj⟩ = false) := HK.out.trans hkj
            rw [hkj] at HO
            cases hok : outK (bl s) m L
            · have HX : Hid (outF (bl s) m (⟨j, hj⟩ :: L) = (j : Int)) := out_take HH.out HKn.out hok
              rw [hok] at HO2
              go_wp2_with (go_at_call 8; fail)
              refine (HO.out _).mono ?_
              rintro e w2 ⟨rfl, hB2⟩
              have HB2 : Hid (∀ A, Below w.heap.size w (w2.alloc A)) := fun A => (HB.out.trans (hB2.mono HB.out.size)).alloc (by have := HB.out.size; have := hB2.size; omega) _
              go_wp2_with (go_at_call 8; fail)
              refine (HO2.out _).mono ?_
              rintro e w3 ⟨rfl, hB3⟩
              have HB3 : Hid (Below w.heap.size w w3) := (HB2.out _).trans (hB3.mono (HB2.out _).size)
              clear hB3 HB2 hB2
              go_wp2
              go_roundw
              case rel => exact ⟨(j : Int) - 1, by omega, by omega, rfl, by rw [HD.out, HX.out], HB3.out⟩
              case measure => simp [intOf] <;> omega
            · have HX : Hid (outF (bl s) m (⟨j, hj⟩ :: L) = outF (bl s) m L) := out_keep HKn.out hok
              rw [hok] at HO2
              go_wp2_with (go_at_call 8; fail)
              refine (HO.out _).mono ?_
              rintro e w2 ⟨rfl, hB2⟩
              have HB2 : Hid (∀ A, Below w.heap.size w (w2.alloc A)) := fun A => (HB.out.trans (hB2.mono HB.out.size)).alloc (by have := HB.out.size; have := hB2.size; omega) _
              go_wp2_with (go_at_call 8; fail)
              refine (HO2.out _).mono ?_
              rintro e w3 ⟨rfl, hB3⟩
              have HB3 : Hid (Below w.heap.size w w3) := (HB2.out _).trans (hB3.mono (HB2.out _).size)
              clear hB3 HB2 hB2
              go_wp2
              go_roundw
              case rel => exact ⟨(j : Int) - 1, by omega, by omega, rfl, by rw [HD.out, HX.out], HB3.out⟩
              case measure => simp [intOf] <;> omega
          · have HX : Hid (outF (bl s) m (⟨j, hj⟩ :: L) = (j : Int)) := out_known (HK.out.trans hkj)
            rw [hkj] at HO
            go_wp2_with (go_at_call 8; refine (HO.out _).mono ?_; rintro e w2 ⟨rfl, hB2⟩)
            go_roundw
            case rel => exact ⟨(j : Int) - 1, by omega, by omega, rfl, by rw [HD.out, HX.out], (HB.out.trans (hB2.mono HB.out.size)).alloc (by have := HB.out.size; have := hB2.size; omega) _⟩
            case measure => simp [intOf] <;> omega
      · have hmb : (((modeN j : Nat) : Int) == (m : Int)) = false := by simp; omega
        have HX : Hid (outF (bl s) m (⟨j, hj⟩ :: L) = outF (bl s) m L) := out_skip (by rw [HI.out, decide_eq_false hmd, Bool.and_false])
        clear hmd
        go_wp2_with (go_at_call 8; refine (HO.out _).mono ?_; rintro e w2 ⟨rfl, hB2⟩)
        go_roundw
        case rel => exact ⟨(j : Int) - 1, by omega, by omega, rfl, by rw [HD.out, HX.out], (HB.out.trans (hB2.mono HB.out.size)).alloc (by have := HB.out.size; have := hB2.size; omega) _⟩
        case measure => simp [intOf] <;> omega
    · have hi : i = -1 := by omega
      subst hi
      have HB : Hid (Below w.heap.size w wr) := hB
      clear hB
      go_wp2
      go_ret
      exact ⟨ret_int (by simp), HB.out⟩

end Go.Proofs.YtcbfhjgdnffjlaaDoor.Co
