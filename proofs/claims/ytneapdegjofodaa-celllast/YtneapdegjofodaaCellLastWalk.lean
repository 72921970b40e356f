/- CellLast, walked: whatever comes in, true comes out. -/
import Derived.Test.YtneapdegjofodaaSeenOwn
import Derived.Test.YtneapdegjofodaaList
import Derived.Deep.RegionWith
namespace Go.Proofs.Ytneapdegjofodaa.cellLast
open Go.RowKit

/-- The last things of k. -/
def lastOf (room k : Nat) (L : List Int) : List Int := (L.take k).drop (k - room)
theorem lastOf_length {room k : Nat} {L : List Int} (hk : k ≤ L.length) : (lastOf room k L).length = min k room := by
  unfold lastOf
  rw [List.length_drop, List.length_take]; omega
theorem lastOf_put {room k : Nat} {L : List Int} {x : Int} (hr : 1 ≤ room) (hk : k < L.length) (hx : L[k]? = some x) : RingInt.putL room (lastOf room k L) x = lastOf room (k + 1) L ∧ RingInt.putB room (lastOf room k L) = decide (room ≤ k) := by
  have hl := lastOf_length (room := room) (k := k) (L := L) (by omega)
  have ht : L.take (k + 1) = L.take k ++ [x] := by rw [List.take_add_one, hx]; rfl
  have htl : (L.take k).length = k := by rw [List.length_take]; omega
  by_cases hc : k < room
  · have h1 : (lastOf room k L).length < room := by omega
    refine ⟨?_, by unfold RingInt.putB; rw [decide_eq_true h1, decide_eq_false (by omega)]; rfl⟩
    rw [show RingInt.putL room (lastOf room k L) x = lastOf room k L ++ [x] from if_pos h1]
    unfold lastOf
    rw [show k - room = 0 from by omega, show k + 1 - room = 0 from by omega, ht]; rfl
  · have h1 : ¬ (lastOf room k L).length < room := by omega
    refine ⟨?_, by unfold RingInt.putB; rw [decide_eq_false h1, decide_eq_true (by omega)]; rfl⟩
    rw [show RingInt.putL room (lastOf room k L) x = (lastOf room k L).tail ++ [x] from if_neg h1]
    unfold lastOf
    rw [List.tail_drop, show k - room + 1 = k + 1 - room from by omega, ht, List.drop_append_of_le_length (by omega)]

set_option maxRecDepth 100000 in
set_option maxHeartbeats 2000000 in
theorem zero {ao : Option Addr} {cap b off : Nat} {L : List Int} {W : World} (hS : Seen (fun x => .int .i64 x) W ao cap b off L) (hb : L.length ≤ 300) :
    Calls Try.prog 7 #[.int .u8 0, .slice ao L.length cap] W fun e w' => e = .returned (.bool true) ∧ Below W.heap.size W w' := by
  have HS : Hid (Seen (fun x => .int .i64 x) W ao cap b off L) := hS
  have hbi : (L.length : Int) ≤ 300 := by omega
  clear hS
  go_enter Try.func7, Try.ntmps7
  go_wp2_with (go_at_call 9; refine (RingInt.New_no 0 _ (by omega)).mono ?_; rintro e w1 ⟨rfl, hw⟩; subst w1)
  go_loopw [6, 7] (fun v i wr => ∃ k : Nat, k ≤ L.length ∧ i = .int .i64 (k : Int) ∧ v = .int .i64 0 ∧ wr = W) (fun _ i _ => L.length - (intOf i).toNat)
  case atStart => exact ⟨0, by omega, rfl, rfl, rfl⟩
  case round =>
    obtain ⟨k, hk, rfl, rfl, rfl⟩ := hrel
    by_cases hl : k < L.length
    · obtain ⟨x, hx⟩ : ∃ x, L[k]? = some x := ⟨_, List.getElem?_eq_getElem hl⟩
      have hne : L ≠ [] := fun e => by rw [e] at hx; cases hx
      have hao := HS.out.at_ hne
      subst hao
      have cx : wr.cell? ⟨b, off + k, none⟩ = some (.int .i64 x) := HS.out.cell k x hx
      have k0 : (0 : Int) ≤ (k : Int) := by omega
      have k1 : (k : Int) < (L.length : Int) := by omega
      clear hx hne
      go_wp2_with (go_at_call 10; refine (RingInt.Put_nil x _).mono ?_; rintro e w1 ⟨rfl, hw⟩; subst w1)
      go_roundw
      case rel => exact ⟨k + 1, by omega, by go_num, rfl, (by first | trivial | rfl)⟩
      case measure => simp [intOf]; omega
    · have hkl : (L.length : Int) ≤ (k : Int) := by omega
      go_wp2_with (go_at_call 15; refine (awake3 _).mono ?_; rintro e w4 ⟨rfl, hb4⟩)
      go_ret
      exact ⟨rfl, hb4⟩

set_option maxRecDepth 100000 in
set_option maxHeartbeats 2000000 in
theorem good {room : Nat} {ao : Option Addr} {cap b off : Nat} {L : List Int} {W : World} (hS : Seen (fun x => .int .i64 x) W ao cap b off L) (hb : L.length ≤ 300) (hz : ao = none → L.length = 0 ∧ cap = 0) (hr1 : 1 ≤ room) (hr2 : room ≤ 255) :
    Calls Try.prog 7 #[.int .u8 (room : Int), .slice ao L.length cap] W fun e w' => e = .returned (.bool true) ∧ Below W.heap.size W w' := by
  have HS : Hid (Seen (fun x => .int .i64 x) W ao cap b off L) := hS
  have hbi : (L.length : Int) ≤ 300 := by omega
  have hcap := hS.le
  have hmax := hS.max
  have HZ : Hid (ao = none → L.length = 0 ∧ cap = 0) := hz
  clear hS hz
  go_enter Try.func7, Try.ntmps7
  go_wp2_with (go_at_call 9; fail)
  refine (RingInt.New_yes room _ hr1 (by omega)).mono ?_
  rintro e w1 ⟨rfl, hR1, hB1⟩
  have HR1 : Hid (RingInt.Ring w1 W.heap.size room (.slice none 0 0) []) := hR1
  have HB1 : Hid (Below W.heap.size W w1) := hB1
  clear hR1 hB1
  go_wp2
  go_loopw [6, 7] (fun v i wr => ∃ (k m : Nat) (r : Value), k ≤ L.length ∧ m = k - room ∧ i = .int .i64 (k : Int) ∧ v = .int .i64 (m : Int) ∧ RingInt.Ring wr W.heap.size room r (lastOf room k L) ∧ Below W.heap.size W wr) (fun _ i _ => L.length - (intOf i).toNat)
  case atStart => exact ⟨0, 0, _, by omega, by omega, rfl, rfl, by rw [show lastOf room 0 L = [] from by simp [lastOf]]; exact HR1.out, HB1.out⟩
  case round =>
    obtain ⟨k, m, r, hk, hm, rfl, rfl, hR, hB⟩ := hrel
    have HR : Hid (RingInt.Ring wr W.heap.size room r (lastOf room k L)) := hR
    have HB : Hid (Below W.heap.size W wr) := hB
    have hge := hR.ge
    have HM : Hid (m = k - room) := hm
    clear HR1 HB1 hm
    by_cases hl : k < L.length
    · obtain ⟨x, hx⟩ : ∃ x, L[k]? = some x := ⟨_, List.getElem?_eq_getElem hl⟩
      have hne : L ≠ [] := fun e => by rw [e] at hx; cases hx
      have hao := HS.out.at_ hne
      subst hao
      have cx : wr.cell? ⟨b, off + k, none⟩ = some (.int .i64 x) := (hB.cell (p := ⟨b, off + k, none⟩) (HS.out.lt hne)).trans (HS.out.cell k x hx)
      have k0 : (0 : Int) ≤ (k : Int) := by omega
      have k1 : (k : Int) < (L.length : Int) := by omega
      have HP : Hid (RingInt.putL room (lastOf room k L) x = lastOf room (k + 1) L ∧ RingInt.putB room (lastOf room k L) = decide (room ≤ k)) := lastOf_put hr1 hl hx
      clear hx hne hR hB
      go_wp2_with (go_at_call 10; fail)
      refine (RingInt.Put W.heap.size room r x _ _ HR.out).mono ?_
      rintro e w2 ⟨rfl, v2, hR2, hP2, _⟩
      rw [HP.out.1] at hR2
      rw [HP.out.2]
      have HR2 : Hid (RingInt.Ring w2 W.heap.size room v2 (lastOf room (k + 1) L)) := hR2
      have HB2 : Hid (Below W.heap.size W w2) := HB.out.trans (hP2.below (Nat.le_refl _) HB.out.size (fun j hj => by have := (hge j hj).1; omega))
      clear hR2 hP2 hge
      by_cases hc : room ≤ k
      · have hd : decide (room ≤ k) = true := decide_eq_true hc
        have hm3 : m ≤ 300 := by have := HM.out; omega
        rw [hd]
        clear hd
        go_wp2
        go_roundw
        case rel => exact ⟨k + 1, m + 1, v2, by omega, by have := HM.out; omega, by go_num, by go_num, HR2.out, HB2.out⟩
        case measure => simp [intOf]; omega
      · have hd : decide (room ≤ k) = false := decide_eq_false hc
        rw [hd]
        clear hd
        go_wp2
        go_roundw
        case rel => exact ⟨k + 1, m, v2, by omega, by have := HM.out; omega, by go_num, rfl, HR2.out, HB2.out⟩
        case measure => simp [intOf]; omega
    · have hkl : k = L.length := by omega
      subst hkl
      have hrz : ((room : Int) == 0) = false := beq_eq_false_iff_ne.2 (by omega)
      have HL : Hid (Seen (fun x => .int .i64 x) wr ao cap b off L) := HS.out.below HB.out
      have HLD : Hid (RingInt.Ring wr W.heap.size room r (L.drop m)) := by
        have e : lastOf room L.length L = L.drop m := by unfold lastOf; rw [List.take_length, HM.out]
        have := HR.out
        rw [e] at this
        exact this
      have hmm : (m : Int) ≤ (L.length : Int) := by have := HM.out; omega
      have hmn : m ≤ L.length := by omega
      have hfrom : ((L.length : Int) - (room : Int) = (m : Int) ∧ (0 : Int) ≤ (m : Int)) ∨ ((L.length : Int) - (room : Int) < 0 ∧ m = 0) := by have := HM.out; omega
      have HDL : Hid ((L.drop m).length = L.length - m) := List.length_drop
      clear hR hB hge
      have hsp : (L = [] ∧ ao = none ∧ cap = 0) ∨ (L = [] ∧ ∃ ad, ao = some ad) ∨ (ao = some ⟨b, off, none⟩) := by
        by_cases hL : L = []
        · match ao, HZ.out with
          | none, h => exact .inl ⟨hL, rfl, (h rfl).2⟩
          | some ad, _ => exact .inr (.inl ⟨hL, ad, rfl⟩)
        · exact .inr (.inr (HL.out.at_ hL))
      rcases hsp with ⟨rfl, rfl, rfl⟩ | ⟨rfl, ad, rfl⟩ | rfl
      · have hm00 : m = 0 := Nat.le_zero.1 hmn
        subst hm00
        have HLD2 : Hid (RingInt.Ring wr W.heap.size room r []) := HLD.out
        clear HLD HR HDL HM hmn hmm hb hbi hcap hfrom hk hl
        have hneg : (0 : Int) - (room : Int) < 0 := by omega
        go_wp2
        go_region_held3 (fun _ => True) (trivial) (first
          | (go_at_call 14; refine (RingInt.RList W.heap.size room r [] _ (by exact HLD2.out.draws 1)).mono ?_; rintro e w5 ⟨g5, c5, rfl, hg5, hO5, hB5⟩; have HS5 : Hid (Seen (fun x => .int .i64 x) w5 (some ⟨g5, 0, none⟩) c5 g5 0 []) := Ref3.seen_own hO5 rfl; have HB5 : Hid (Below W.heap.size W w5) := (below_drewN HB.out 1).trans (hB5.mono (by exact HB.out.size)); clear hO5 hB5)
          | (go_at_call 17; refine (Ref3.Same [] _ _ _ _ c5 _ g5 b 0 _ _ HS5.out (Seen.nil _ _ _ (by omega) _ 0) rfl rfl).mono ?_; rintro e w6 ⟨rfl, q6, hq⟩; subst w6)
          | (go_at_call 15; refine (awake3 _).mono ?_; rintro e w4 ⟨rfl, hb4⟩; have HB6 : Hid (Below W.heap.size W w4) := (below_drewN HB5.out _).trans (hb4.mono (by simpa using HB5.out.size)); clear hb4))
        all_goals go_wp2
        all_goals go_ret
        all_goals exact ⟨rfl, HB6.out⟩
      · have hm00 : m = 0 := Nat.le_zero.1 hmn
        subst hm00
        have HLD2 : Hid (RingInt.Ring wr W.heap.size room r []) := HLD.out
        clear HLD HR HDL HM hmn hmm hb hbi hcap hfrom hk hl
        have hneg : (0 : Int) - (room : Int) < 0 := by omega
        go_wp2
        go_region_held3 (fun _ => True) (trivial) (first
          | (go_at_call 14; refine (RingInt.RList W.heap.size room r [] _ (by exact HLD2.out.draws 1)).mono ?_; rintro e w5 ⟨g5, c5, rfl, hg5, hO5, hB5⟩; have HS5 : Hid (Seen (fun x => .int .i64 x) w5 (some ⟨g5, 0, none⟩) c5 g5 0 []) := Ref3.seen_own hO5 rfl; have HB5 : Hid (Below W.heap.size W w5) := (below_drewN HB.out 1).trans (hB5.mono (by exact HB.out.size)); clear hO5 hB5)
          | (go_at_call 17; refine (Ref3.Same [] _ _ _ _ c5 _ g5 b 0 _ _ HS5.out (Seen.nil _ _ _ (by omega) _ 0) rfl rfl).mono ?_; rintro e w6 ⟨rfl, q6, hq⟩; subst w6)
          | (go_at_call 15; refine (awake3 _).mono ?_; rintro e w4 ⟨rfl, hb4⟩; have HB6 : Hid (Below W.heap.size W w4) := (below_drewN HB5.out _).trans (hb4.mono (by simpa using HB5.out.size)); clear hb4))
        all_goals go_wp2
        all_goals go_ret
        all_goals exact ⟨rfl, HB6.out⟩
      · have HLD2 : Hid (RingInt.Ring wr W.heap.size room r (L.drop m)) := HLD.out
        clear HLD
        rcases hfrom with ⟨hmi, hm0⟩ | ⟨hneg, rfl⟩
        · have HT : Hid (Seen (fun x => .int .i64 x) wr (some ⟨b, off + m, none⟩) (cap - m) b (off + m) (L.drop m)) := by
            have := HL.out.tail hmn
            rw [if_neg (by omega)] at this
            exact this
          go_wp2
          go_region_held3 (fun _ => True) (trivial) (first
            | (go_at_call 14; refine (RingInt.RList W.heap.size room r (L.drop m) _ (by exact HLD2.out.draws 1)).mono ?_; rintro e w5 ⟨g5, c5, rfl, hg5, hO5, hB5⟩; have HS5 : Hid (Seen (fun x => .int .i64 x) w5 (some ⟨g5, 0, none⟩) c5 g5 0 (L.drop m)) := Ref3.seen_own hO5 rfl; have HB5w : Hid (Below wr.heap.size wr w5) := (Below.trans (below_drewN (Below.refl _ wr) 1) (by exact hB5)); have HB5 : Hid (Below W.heap.size W w5) := (below_drewN HB.out 1).trans (hB5.mono (by exact HB.out.size)); clear hO5 hB5)
            | (go_at_call 17; refine (Ref3.Same (L.drop m) _ _ _ _ c5 _ g5 b 0 _ _ HS5.out (by exact HT.out.below HB5w.out) (by first | rfl | exact HDL.out.symm) (by first | rfl | exact HDL.out.symm)).mono ?_; rintro e w6 ⟨rfl, q6, hq⟩; subst w6)
            | (go_at_call 15; refine (awake3 _).mono ?_; rintro e w4 ⟨rfl, hb4⟩; have HB6 : Hid (Below W.heap.size W w4) := (below_drewN HB5.out _).trans (hb4.mono (by simpa using HB5.out.size)); clear hb4))
          all_goals go_wp2
          all_goals go_ret
          all_goals exact ⟨rfl, HB6.out⟩
        · have hneg' : (L.length : Int) - (room : Int) < 0 := hneg
          have HT : Hid (Seen (fun x => .int .i64 x) wr (some ⟨b, off, none⟩) cap b off L) := HL.out
          have HLD3 : Hid (RingInt.Ring wr W.heap.size room r L) := HLD2.out
          go_wp2
          go_region_held3 (fun _ => True) (trivial) (first
            | (go_at_call 14; refine (RingInt.RList W.heap.size room r L _ (by exact HLD3.out.draws 1)).mono ?_; rintro e w5 ⟨g5, c5, rfl, hg5, hO5, hB5⟩; have HS5 : Hid (Seen (fun x => .int .i64 x) w5 (some ⟨g5, 0, none⟩) c5 g5 0 L) := Ref3.seen_own hO5 rfl; have HB5w : Hid (Below wr.heap.size wr w5) := (Below.trans (below_drewN (Below.refl _ wr) 1) (by exact hB5)); have HB5 : Hid (Below W.heap.size W w5) := (below_drewN HB.out 1).trans (hB5.mono (by exact HB.out.size)); clear hO5 hB5)
            | (go_at_call 17; refine (Ref3.Same L _ _ _ _ c5 _ g5 b 0 _ _ HS5.out (by exact HT.out.below HB5w.out) rfl rfl).mono ?_; rintro e w6 ⟨rfl, q6, hq⟩; subst w6)
            | (go_at_call 15; refine (awake3 _).mono ?_; rintro e w4 ⟨rfl, hb4⟩; have HB6 : Hid (Below W.heap.size W w4) := (below_drewN HB5.out _).trans (hb4.mono (by simpa using HB5.out.size)); clear hb4))
          all_goals go_wp2
          all_goals go_ret
          all_goals exact ⟨rfl, HB6.out⟩

set_option maxRecDepth 100000 in
set_option maxHeartbeats 1000000 in
theorem great (a0 : Int) {ao : Option Addr} {n cap : Nat} {W : World} (hn : 300 < n) (hm : n ≤ 9223372036854775807) :
    Calls Try.prog 7 #[.int .u8 a0, .slice ao n cap] W fun e w' => e = .returned (.bool true) ∧ Below W.heap.size W w' := by
  have hbi : (300 : Int) < (n : Int) := by omega
  go_enter Try.func7, Try.ntmps7
  go_wp2
  go_ret
  exact ⟨rfl, Below.refl _ _⟩

theorem walk (a0 : Int) (w0 : (Lit.int .u8 a0).wf = true) {ao : Option Addr} {n cap b off : Nat} {L : List Int} {W : World} (hS : Seen (fun x => .int .i64 x) W ao cap b off L) (hn : n = L.length) (hz : ao = none → n = 0 ∧ cap = 0) :
    Calls Try.prog 7 #[.int .u8 a0, .slice ao n cap] W fun e w' => e = .returned (.bool true) ∧ Below W.heap.size W w' := by
  have hb := bounds_u8 w0
  subst hn
  by_cases hbig : 300 < L.length
  · exact great a0 hbig (Nat.le_trans hS.le hS.max)
  · obtain ⟨room, rfl⟩ := Int.eq_ofNat_of_zero_le (show 0 ≤ a0 by omega)
    by_cases hr : room = 0
    · subst hr
      exact zero hS (by omega)
    · exact good hS (by omega) hz (by omega) (by omega)

end Go.Proofs.Ytneapdegjofodaa.cellLast
