/- A cell's mode. -/
import Derived.Test.YtelmohajdmcnmaaDoorCode4
namespace Go.Proofs.YtelmohajdmcnmaaDoor.Co
open Go.RowKit

/-- A string's bytes. -/
def bl (s : ByteArray) : List UInt8 := s.data.toList
theorem bl_eq (s : ByteArray) : s.toList = bl s := ByteArray.toList_eq s
theorem bl_beq (s t : ByteArray) : (s.toList == t.toList) = decide (bl s = bl t) := by
  rw [bl_eq, bl_eq, Bool.eq_iff_iff]; simp
theorem ret_int {k : IntKind} {a b : Int} (h : a = b) : Ending.returned (.int k a) = .returned (.int k b) := by rw [h]

def modeFrom (l : List UInt8) : Nat → List (List UInt8) → Nat
  | _, [] => 0
  | k, m :: ms => if l = m then k else modeFrom l (k + 1) ms
/-- The mode of that name. -/
def modeF (l : List UInt8) : Nat := modeFrom l 0 modeL
theorem modeL_length : modeL.length = 13 := rfl
theorem modeFrom_next (l : List UInt8) (k : Nat) (hk : k < 13) : modeFrom l k (modeL.drop k) = if l = modeL.getD k [] then k else modeFrom l (k + 1) (modeL.drop (k + 1)) := by
  have h : modeL.drop k = modeL.getD k [] :: modeL.drop (k + 1) := by
    rw [List.drop_eq_getElem_cons (by rw [modeL_length]; exact hk)]
    congr 1
    rw [List.getD_eq_getElem?_getD, List.getElem?_eq_getElem (by rw [modeL_length]; exact hk)]
    rfl
  rw [h]
  rfl
theorem modeV_at (k : Nat) (hk : k < 13) : modeV.toArray[k]? = some (.string (modeB k)) := by
  unfold modeV modeB
  rw [List.getElem?_toArray, List.getElem?_map, List.getElem?_eq_getElem (by rw [modeL_length]; exact hk), List.getD_eq_getElem?_getD, List.getElem?_eq_getElem (by rw [modeL_length]; exact hk)]
  rfl
theorem atMode (w : World) (i : Nat) (j : Int) (hi : i < 13) (k : IntKind) (hj : j = (i : Int)) : (Instr.index 96 (.agg modeV.toArray) (.int k j)).run Tryd.prog w = .ok (.string (modeB i)) w := by
  subst hj
  exact run_index_array w 96 9 13 _ k i _ Tryd.underlying96 sizeStr aggStr hi (modeV_at i hi)
theorem infoModes : (Tryd.prog.info? 96).map (·.size) = some modeV.length := by kernel_rfl

set_option maxRecDepth 100000 in
set_option maxHeartbeats 1000000 in
theorem mode (c : ByteArray) (w : World) (hr : c.size = 7) (ht : Tab w) : Calls Tryd.prog 42 #[.string c] w fun e w' => e = .returned (.int .u8 (modeF (bl (c.extract 4 7)) : Nat)) ∧ w' = w := by
  have HT := ht.md
  clear ht
  go_enter Tryd.func42, Tryd.ntmps42
  go_wp2_with (first | (refine wpList_load_mid rfl 96 _ rfl 3 0 rfl modeV _ HT Tryd.underlying96 rfl infoModes ?_))
  go_loop [9] (fun i => ∃ k : Nat, k ≤ 13 ∧ i = .int .i64 (k : Int) ∧ modeF (bl (c.extract 4 7)) = modeFrom (bl (c.extract 4 7)) k (modeL.drop k)) (fun i => 13 - (intOf i).toNat)
  case atStart => exact ⟨0, by omega, rfl, rfl⟩
  case round =>
    obtain ⟨k, hk, rfl, hm⟩ := hrel
    have HM : Hid (modeF (bl (c.extract 4 7)) = modeFrom (bl (c.extract 4 7)) k (modeL.drop k)) := hm
    clear hm
    by_cases hl : k < 13
    · have hi := fun w => atMode w k (k : Int) hl .i64 rfl
      have HN : Hid (modeF (bl (c.extract 4 7)) = if (bl (c.extract 4 7)) = modeL.getD k [] then k else modeFrom (bl (c.extract 4 7)) (k + 1) (modeL.drop (k + 1))) := HM.out.trans (modeFrom_next _ k hl)
      have HB : Hid (((c.extract 4 7).toList == (modeB k).toList) = decide (bl (c.extract 4 7) = modeL.getD k [])) := by
        show _ = _
        rw [bl_beq]
        rfl
      cases hb : ((c.extract 4 7).toList == (modeB k).toList)
      · go_wp2
        go_round
        case rel => exact ⟨k + 1, by omega, by go_num, by rw [HN.out, if_neg (by have := HB.out; rw [hb] at this; exact of_decide_eq_false this.symm)]⟩
        case measure => simp [intOf]; omega
      · go_wp2
        go_ret
        exact ⟨ret_int (by rw [HN.out, if_pos (by have := HB.out; rw [hb] at this; exact of_decide_eq_true this.symm)]), rfl⟩
    · have hk13 : k = 13 := by omega
      subst hk13
      go_wp2
      go_ret
      exact ⟨ret_int (by rw [HM.out]; rfl), rfl⟩

end Go.Proofs.YtelmohajdmcnmaaDoor.Co
