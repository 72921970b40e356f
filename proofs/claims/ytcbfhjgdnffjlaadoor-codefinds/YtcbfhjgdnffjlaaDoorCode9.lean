/- The function that ranges over the codes. -/
import Derived.Test.YtcbfhjgdnffjlaaDoorCode8
import Derived.RangeFuncFrom
import Derived.RangeFuncLeaves
import Derived.RangeFuncCalls
import Derived.RangeFuncBound
import Derived.OwnWalkIn
import Derived.TacticsInMore
import Derived.LoopNIn
import Derived.LoopIn
namespace Go.Proofs.YtcbfhjgdnffjlaaDoor.Co
open Go.RowKit Go.Shelf

attribute [local go_sem] Oper.semAt_some

/-- What a round is handed. -/
def encs (x : Fin 256) : Array Value := #[.int .u8 ((x.val : Nat) : Int), .string (cellB x.val)]
/-- All codes, from 0 on. -/
def codes : List (Fin 256) := List.finRange 256
theorem codes_length : codes.length = 256 := List.length_finRange
theorem codes_next (k : Nat) (h : k < 256) : codes.take k ++ [⟨k, h⟩] = codes.take (k + 1) := by
  rw [List.take_succ_eq_append_getElem (by rw [codes_length]; exact h)]
  congr 1
  unfold codes
  rw [List.getElem_finRange]
  rfl
theorem encs_at (i c : Nat) (h : i * 16 + c < 256) (hc : c < 16) : encs ⟨i * 16 + c, h⟩ = #[.int .u8 ((i : Int) * 16 + (c : Int)), .string ((rowB i).extract (c * 8) (c * 8 + 7))] := by
  unfold encs cellB
  simp only
  rw [show (i * 16 + c) / 16 = i by omega, show (i * 16 + c) % 16 = c by omega]
  rfl

set_option maxRecDepth 100000 in
set_option maxHeartbeats 2000000 in
theorem cells (n : Nat) (hn : 1 ≤ n) (l : Nat) (J Jx : List (Fin 256) → World → Prop)
    (hY : ∀ (pre : List (Fin 256)) (x : Fin 256) (W : World), J pre W → pre.length < 256 → YieldAt Fence.wide (n - 1) Tryd.prog l (encs x) W fun e W' =>
      (e = .returned (.bool true) ∧ J (pre ++ [x]) W' ∧ True) ∨ (e = .returned (.bool false) ∧ Jx (pre ++ [x]) W'))
    (W : World) (h0 : ∀ W2, Below W.heap.size W W2 → J [] W2) :
    CallsIn Fence.wide n Tryd.prog 27 #[.func (.yield l) #[] #[]] W fun e W' => (∃ v, e = .returned v) ∧
      ((∃ ys, ys = codes ∧ J ys W') ∨ (∃ pre, pre <+: codes ∧ Jx pre W')) := by
  refine callsIn_of_wp Tryd.func27 rfl trivial ?_ rfl
  simp only [Tryd.ntmps27, List.size_toArray, List.length_cons, List.length_nil, Nat.reduceAdd, Nat.reduceSub, Array.replicate_succ, Array.replicate_zero, List.push_toArray, List.append_toArray, List.nil_append, List.cons_append]
  gi_wp2_with (refine ⟨trivial, ?_⟩; gi_at_call 31; refine (callsIn_wide.2 (rows _)).mono ?_; rintro e w2 ⟨rfl, hB2⟩)
  have hJ0 : J [] w2 := h0 _ hB2
  clear h0
  gi_loopw [6] (fun v wr => ∃ i : Nat, i ≤ 16 ∧ v = .int .i64 (i : Int) ∧ J (codes.take (i * 16)) wr) (fun v _ => 16 - (intOf v).toNat)
  case atStart => exact ⟨0, by omega, rfl, hJ0⟩
  case round =>
    obtain ⟨i, hi, rfl, hJ⟩ := hrel
    obtain ⟨wo, rfl⟩ : ∃ wo : World, wo = wr := ⟨_, rfl⟩
    by_cases hl : i < 16
    · have hid : decide ((i : Int) < 16) = true := by simp; omega
      have hr := fun w => atRow w i (i : Int) hl .i64 rfl
      have hz := rowB_size i hl
      have HJ : Hid (J (codes.take (i * 16)) wo) := hJ
      clear hJ hJ0
      gi_wp2
      gi_loopw [10] (fun v wr => ∃ c : Nat, c ≤ 16 ∧ v = .int .i64 (c : Int) ∧ J (codes.take (i * 16 + c)) wr) (fun v _ => 16 - (intOf v).toNat)
      case atStart => exact ⟨0, by omega, rfl, HJ.out⟩
      case round =>
        obtain ⟨c, hc, rfl, hJ⟩ := hrel
        by_cases hcl : c < 16
        · have HN : Hid (codes.take (i * 16 + c) ++ [⟨i * 16 + c, by omega⟩] = codes.take (i * 16 + c + 1)) := codes_next _ _
          obtain ⟨fn, tmps, assign, body, hy, hR⟩ := hY (codes.take (i * 16 + c)) ⟨i * 16 + c, by omega⟩ wr hJ (by rw [List.length_take, codes_length]; omega)
          rw [encs_at i c _ hcl] at hy
          gi_wp2_with (refine ⟨trivial, ?_⟩; gi_at_call 30; refine (callsIn_wide.2 (cellAt _ c _ _ hz (by omega) rfl)).mono ?_; rintro e w' ⟨rfl, rfl⟩)
          refine hR.mono ?_
          rintro e W3 (⟨rfl, hJ3, _⟩ | ⟨rfl, hJx3⟩)
          · rw [HN.out] at hJ3
            have HJ3 : Hid (J (codes.take (i * 16 + c + 1)) W3) := hJ3
            clear hJ3 hR hy hY
            gi_wp2
            go_roundw
            case rel => exact ⟨c + 1, by omega, by go_num, HJ3.out⟩
            case measure => simp [intOf]; omega
          · rw [HN.out] at hJx3
            have HJ3 : Hid (Jx (codes.take (i * 16 + c + 1)) W3) := hJx3
            clear hJx3 hR hy hY
            gi_wp2
            refine bodyPost_ret (results_none rfl _ _ _) rfl ?_
            exact ⟨⟨_, rfl⟩, .inr ⟨_, List.take_prefix _ _, HJ3.out⟩⟩
        · have hc16 : c = 16 := by omega
          subst hc16
          have HJ3 : Hid (J (codes.take ((i + 1) * 16)) wr) := by rw [show (i + 1) * 16 = i * 16 + 16 by omega]; exact hJ
          clear hJ hY
          gi_wp2
          go_roundw
          case rel => exact ⟨i + 1, by omega, by go_num, HJ3.out⟩
          case measure => simp [intOf]; omega
    · have hi16 : i = 16 := by omega
      subst hi16
      have HJ : Hid (J codes wo) := by
        have e : codes.take (16 * 16) = codes := List.take_of_length_le (by rw [codes_length]; decide)
        rw [e] at hJ
        exact hJ
      clear hJ hY
      gi_wp2
      go_end0
      exact ⟨⟨_, rfl⟩, .inl ⟨_, rfl, HJ.out⟩⟩

theorem cells_stops (n : Nat) (hn : 1 ≤ n) (w : World) :
    SeqStopsK Fence.wide n Tryd.prog 27 #[] encs (fun _ _ => True) (fun ys => ys = codes) (fun pre => pre <+: codes) 256 w := fun l J Jx W _ hJ _ hY h0 =>
  cells n hn l J Jx hY W (fun W2 hB => hJ _ _ _ none h0 ⟨hB.os, hB.tape, hB.output, hB.size, fun k hk _ => hB.block k hk⟩ (fun _ e => by cases e))

end Go.Proofs.YtcbfhjgdnffjlaaDoor.Co
