/- ImageTags, walked. -/
import Derived.Test.YtneapdegjofodaaDoorTagsRow
namespace Go.Proofs.YtneapdegjofodaaDoor.Img
open Go.RowKit

/-- Is one of the first k tags the other? -/
def among (other : ByteArray) (k : Nat) : Bool := (tags.take k).any fun t => t.toList == other.toList
theorem among_succ {other t : ByteArray} {k : Nat} (h : tags[k]? = some t) : among other (k + 1) = (among other k || (t.toList == other.toList)) := by
  unfold among
  rw [List.take_add_one, h, List.any_append]
  simp
theorem among_find (other : ByteArray) : among other 11 = (find other).isSome := by
  have e : tags.take 11 = tags := rfl
  have e2 : (find other).isSome = mps.any fun m => m.tag.toList == other.toList := by
    unfold find
    rw [Bool.eq_iff_iff, List.find?_isSome, List.any_eq_true]
  rw [e2]
  unfold among
  rw [e]
  unfold tags
  rw [List.any_map]
  rfl
theorem fit_err (other : ByteArray) (n : Int) : ∃ (b s k : Int) (x : Bool) (c : Int), fit other n = .tuple #[shape b s k x, .int .i64 c] ∧ ((find other).isSome = true ∧ (c = 0 ∨ c = 4) ∨ (find other).isSome = false ∧ c = 3) := by
  unfold fit
  match find other with
  | none => exact ⟨0, 0, 0, false, 3, rfl, .inr ⟨rfl, rfl⟩⟩
  | some m =>
    by_cases hf : fits m n = true
    · exact ⟨n / m.size, m.size, 4096 / m.size, m.extra, 0, if_pos hf, .inl ⟨rfl, .inl rfl⟩⟩
    · exact ⟨0, 0, 0, false, 4, if_neg hf, .inl ⟨rfl, .inr rfl⟩⟩
theorem SRow.below {w w' : World} {g : Nat} {xs : List ByteArray} (h : SRow w g xs) (hb : Below w.heap.size w w') : SRow w' g xs := (hb.block g h.lt).trans h

set_option maxRecDepth 100000 in
set_option maxHeartbeats 4000000 in
theorem imageTags_walk (other : ByteArray) (w : World) (ht : Tab w) :
    Calls Tryd.prog 4 #[.string other] w fun e w' => e = .returned (.bool true) ∧ Below w.heap.size w w' := by
  have h0 := ht.lt
  have HT : Hid (Tab w) := ht
  clear ht
  go_enter Tryd.func4, Tryd.ntmps4
  go_wp2_with (go_at_call 12; fail)
  refine (Tags _ HT.out).mono ?_
  rintro e w1 ⟨g1, rfl, hg1, hR1, hB1⟩
  have hw1 := hB1.size
  go_wp2_with (go_at_call 13; fail)
  refine (RTags _).mono ?_
  rintro e w2 ⟨g2, rfl, hg2, hR2, hB2⟩
  have HR1 : Hid (SRow w2 g1 tags) := hR1.below hB2
  have HR2 : Hid (SRow w2 g2 tags) := hR2
  have HB2 : Hid (Below w.heap.size w w2) := hB1.trans (hB2.mono hw1)
  have HT2 : Hid (Tab w2) := HT.out.below HB2.out h0
  clear hR1 hR2 hB1 hB2 HT
  go_wp2
  go_loopw [5, 6] (fun v i wr => ∃ k q : Nat, k ≤ 11 ∧ i = .int .i64 (k : Int) ∧ v = .bool (among other k) ∧ wr = w2.drewN q) (fun _ i _ => 11 - (intOf i).toNat)
  case atStart => exact ⟨0, 0, by omega, rfl, rfl, rfl⟩
  case round =>
    obtain ⟨k, q, hk, rfl, rfl, rfl⟩ := hrel
    by_cases hl : k < 11
    · obtain ⟨t, hx⟩ : ∃ t, tags[k]? = some t := ⟨_, List.getElem?_eq_getElem (by have : tags.length = 11 := rfl; omega)⟩
      obtain ⟨c1, _⟩ := HR1.out.at_ hx
      obtain ⟨c2, _⟩ := HR2.out.at_ hx
      have HA : Hid (among other (k + 1) = (among other k || (t.toList == other.toList))) := among_succ hx
      have k0 : (0 : Int) ≤ (k : Int) := by omega
      have k1 : (k : Int) < 11 := by omega
      clear hx
      generalize among other k = a at *
      cases a
      · go_wp2
        go_quiet (fail)
        go_wp2
        go_roundw
        case rel => exact ⟨k + 1, _, by omega, by go_num, by rw [HA.out]; rfl, rfl⟩
        case measure => simp [intOf]; omega
      · go_wp2
        go_quiet (fail)
        go_wp2
        go_roundw
        case rel => exact ⟨k + 1, _, by omega, by go_num, by rw [HA.out]; rfl, rfl⟩
        case measure => simp [intOf]; omega
    · have hkl : (11 : Int) ≤ (k : Int) := by omega
      have hkn : k = 11 := by omega
      have HM : Hid (among other k = (find other).isSome) := (by rw [hkn]; exact among_find other : among other k = (find other).isSome)
      obtain ⟨b, s, kk, x, c, he, hc⟩ := fit_err other 2048
      have HE : Hid (fit other 2048 = .tuple #[shape b s kk x, .int .i64 c]) := he
      rw [HM.out]
      clear he hkn
      have HT3 : Hid (Tab (w2.drewN q)) := HT2.out.below (below_drewN (Below.refl _ w2) _) (by have := HB2.out.size; omega)
      have HB3 : Hid (Below w.heap.size w (w2.drewN q)) := below_drewN HB2.out q
      rcases hc with ⟨hi, rfl | rfl⟩ | ⟨hi, rfl⟩
      all_goals
        rw [hi]
        go_wp2_with (go_at_call 6; fail)
        refine (Fit other 2048 _ HT3.out).mono ?_
        rintro e w4 ⟨rfl, hB4⟩
        rw [HE.out]
        have HT4 : Hid (Tab w4) := HT3.out.below hB4 (by have := HB3.out.size; omega)
        have HB4 : Hid (Below w.heap.size w w4) := HB3.out.trans (hB4.mono HB3.out.size)
        clear hB4
        simp only
        unfold shape
        iterate 15 go_step
        generalize hw5 : w4.alloc _ = w5
        have HB5 : Hid (Below w.heap.size w w5) := (by rw [← hw5]; exact HB4.out.alloc HB4.out.size _ : Below w.heap.size w w5)
        have HT5 : Hid (Tab w5) := (by rw [← hw5]; exact HT4.out.below ((Below.refl _ _).alloc (Nat.le_refl _) _) (by have := HB4.out.size; omega) : Tab w5)
        clear hw5
        go_wp2_with (go_at_call 11; refine (awake4 _ HT5.out).mono ?_; rintro e w6 ⟨rfl, hb6⟩)
        go_ret
        exact ⟨rfl, HB5.out.trans (hb6.mono HB5.out.size)⟩

end Go.Proofs.YtneapdegjofodaaDoor.Img
