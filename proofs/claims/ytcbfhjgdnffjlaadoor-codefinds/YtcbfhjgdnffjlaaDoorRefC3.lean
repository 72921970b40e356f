/- Where a word stands, and the document's kinds. -/
import Derived.Test.YtcbfhjgdnffjlaaDoorRefC2
namespace Go.Proofs.YtcbfhjgdnffjlaaDoor.Co
open Go.RowKit

def placeFrom (l w : List UInt8) : Nat → Nat → Int
  | 0, _ => -1
  | f + 1, n => if wordL 32 l (n : Int) = [] then -1 else if wordL 32 l (n : Int) = w then (n : Int) else placeFrom l w f (n + 1)
/-- Where a word stands among those of a text. -/
def placeL (l w : List UInt8) : Int := placeFrom l w 40 0
theorem placeFrom_succ (l w : List UInt8) (f n : Nat) : placeFrom l w (f + 1) n = if wordL 32 l (n : Int) = [] then -1 else if wordL 32 l (n : Int) = w then (n : Int) else placeFrom l w f (n + 1) := rfl
theorem placeFrom_le (l w : List UInt8) : ∀ f n : Nat, -1 ≤ placeFrom l w f n ∧ placeFrom l w f n ≤ (n : Int) + f
  | 0, n => by simp only [placeFrom]; omega
  | f + 1, n => by
    rw [placeFrom_succ]
    split
    · omega
    · split
      · omega
      · have := placeFrom_le l w f (n + 1); omega
theorem placeL_le (l w : List UInt8) : -1 ≤ placeL l w ∧ placeL l w ≤ 40 := by
  have := placeFrom_le l w 40 0
  unfold placeL
  omega

theorem bl_empty (s : ByteArray) : (s.toList == []) = decide (bl s = []) := by
  rw [bl_eq, Bool.eq_iff_iff]; simp

set_option maxRecDepth 100000 in
set_option maxHeartbeats 1000000 in
theorem Place (s x : ByteArray) (w : World) (hs : s.size ≤ 900) : Calls Tryd.prog 24 #[.string s, .string x] w fun e w' => e = .returned (.int .i64 (placeL (bl s) (bl x))) ∧ w' = w := by
  go_enter Tryd.func24, Tryd.ntmps24
  go_wp2
  go_loop [5] (fun v => ∃ n : Nat, n ≤ 40 ∧ v = .int .i64 (n : Int) ∧ placeL (bl s) (bl x) = placeFrom (bl s) (bl x) (40 - n) n) (fun v => 40 - (intOf v).toNat)
  case atStart => exact ⟨0, by omega, rfl, rfl⟩
  case round =>
    obtain ⟨n, hn, rfl, hp⟩ := hrel
    by_cases hl : n < 40
    · have HP : Hid (placeL (bl s) (bl x) = if wordL 32 (bl s) (n : Int) = [] then -1 else if wordL 32 (bl s) (n : Int) = bl x then (n : Int) else placeFrom (bl s) (bl x) (40 - (n + 1)) (n + 1)) := by
        show _ = _
        rw [hp, show 40 - n = (40 - (n + 1)) + 1 by omega, placeFrom_succ]
      clear hp
      have HE : Hid (((wordB s (n : Int) 32).toList == []) = decide (wordL 32 (bl s) (n : Int) = [])) := bl_empty _
      have HW : Hid (((wordB s (n : Int) 32).toList == x.toList) = decide (wordL 32 (bl s) (n : Int) = bl x)) := bl_beq _ _
      cases h1 : ((wordB s (n : Int) 32).toList == [])
      · have h1' : ¬ wordL 32 (bl s) (n : Int) = [] := by have := HE.out; rw [h1] at this; exact of_decide_eq_false this.symm
        have H1 : Hid (¬ wordL 32 (bl s) (n : Int) = []) := h1'
        clear h1'
        cases h2 : ((wordB s (n : Int) 32).toList == x.toList)
        · have H2 : Hid (¬ wordL 32 (bl s) (n : Int) = bl x) := by show ¬ _; have := HW.out; rw [h2] at this; exact of_decide_eq_false this.symm
          go_wp2_with (go_at_call 22; refine (word _ _ _ _ (by omega) (by omega) (by omega)).mono ?_; rintro e w' ⟨rfl, rfl⟩)
          go_round
          case rel => exact ⟨n + 1, by omega, by go_num, by rw [HP.out, if_neg H1.out, if_neg H2.out]⟩
          case measure => simp [intOf]; omega
        · have H2 : Hid (wordL 32 (bl s) (n : Int) = bl x) := by show _ = _; have := HW.out; rw [h2] at this; exact of_decide_eq_true this.symm
          go_wp2_with (go_at_call 22; refine (word _ _ _ _ (by omega) (by omega) (by omega)).mono ?_; rintro e w' ⟨rfl, rfl⟩)
          go_ret
          exact ⟨ret_int (by rw [HP.out, if_neg H1.out, if_pos H2.out]), rfl⟩
      · have H1 : Hid (wordL 32 (bl s) (n : Int) = []) := by show _ = _; have := HE.out; rw [h1] at this; exact of_decide_eq_true this.symm
        go_wp2_with (go_at_call 22; refine (word _ _ _ _ (by omega) (by omega) (by omega)).mono ?_; rintro e w' ⟨rfl, rfl⟩)
        go_ret
        exact ⟨ret_int (by rw [HP.out, if_pos H1.out]), rfl⟩
    · have h40 : n = 40 := by omega
      subst h40
      have HP : Hid (placeL (bl s) (bl x) = -1) := hp
      clear hp
      go_wp2
      go_ret
      exact ⟨ret_int HP.out.symm, rfl⟩

end Go.Proofs.YtcbfhjgdnffjlaaDoor.Co
