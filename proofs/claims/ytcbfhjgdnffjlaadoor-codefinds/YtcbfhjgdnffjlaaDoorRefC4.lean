/- The document's kinds. -/
import Derived.Test.YtcbfhjgdnffjlaaDoorRefC3
namespace Go.Proofs.YtcbfhjgdnffjlaaDoor.Co
open Go.RowKit

theorem placeTurn (x : ByteArray) (w : World) : Calls Tryd.prog 24 #[.string ⟨tTurn.toArray⟩, .string x] w fun e w' => e = .returned (.int .i64 (placeL tTurn (bl x))) ∧ w' = w := Place ⟨tTurn.toArray⟩ x w (by decide)
theorem placeStore (x : ByteArray) (w : World) : Calls Tryd.prog 24 #[.string ⟨tStore.toArray⟩, .string x] w fun e w' => e = .returned (.int .i64 (placeL tStore (bl x))) ∧ w' = w := Place ⟨tStore.toArray⟩ x w (by decide)
theorem placeJump (x : ByteArray) (w : World) : Calls Tryd.prog 24 #[.string ⟨tJump.toArray⟩, .string x] w fun e w' => e = .returned (.int .i64 (placeL tJump (bl x))) ∧ w' = w := Place ⟨tJump.toArray⟩ x w (by decide)
theorem placeOdd (x : ByteArray) (w : World) : Calls Tryd.prog 24 #[.string ⟨tOdd.toArray⟩, .string x] w fun e w' => e = .returned (.int .i64 (placeL tOdd (bl x))) ∧ w' = w := Place ⟨tOdd.toArray⟩ x w (by decide)
theorem placeMode (x : ByteArray) (w : World) : Calls Tryd.prog 24 #[.string ⟨tMode.toArray⟩, .string x] w fun e w' => e = .returned (.int .i64 (placeL tMode (bl x))) ∧ w' = w := Place ⟨tMode.toArray⟩ x w (by decide)

/-- The document's kind of a name and a mode. -/
def kindR (l m : List UInt8) : Int :=
  if decide (0 ≤ placeL tTurn l) then 3 else if decide (0 ≤ placeL tStore l) then 2 else if m == [114, 101, 108] then 4 else if l == [80, 72, 65] then 5 else if l == [80, 72, 80] then 5
  else if l == [80, 76, 65] then 6 else if l == [80, 76, 80] then 6 else if decide (0 ≤ placeL tJump l) then 7 + placeL tJump l else if m == [105, 109, 112] then 0 else 1

set_option maxRecDepth 100000 in
set_option maxHeartbeats 4000000 in
theorem kind (x y : ByteArray) (w : World) : Calls Tryd.prog 25 #[.string x, .string y] w fun e w' => e = .returned (.int .i64 (kindR (bl x) (bl y))) ∧ w' = w := by
  have hj := placeL_le tJump (bl x)
  have HK : Hid (kindR (bl x) (bl y) = if decide (0 ≤ placeL tTurn (bl x)) then 3 else if decide (0 ≤ placeL tStore (bl x)) then 2 else if y.toList == [114, 101, 108] then 4 else if x.toList == [80, 72, 65] then 5 else if x.toList == [80, 72, 80] then 5
    else if x.toList == [80, 76, 65] then 6 else if x.toList == [80, 76, 80] then 6 else if decide (0 ≤ placeL tJump (bl x)) then 7 + placeL tJump (bl x) else if y.toList == [105, 109, 112] then 0 else 1) := by
    show _ = _
    rw [bl_eq, bl_eq]
    rfl
  cases h1 : decide (0 ≤ placeL tTurn (bl x))
  rotate_left
  · as_aux_lemma =>
    go_enter Tryd.func25, Tryd.ntmps25
    go_wp2_with (go_at_call 24; fail)
    refine (placeTurn _ _).mono ?_
    rintro e w' ⟨rfl, rfl⟩
    go_wp2
    go_ret
    exact ⟨ret_int (by rw [HK.out, h1]; rfl), rfl⟩
  cases h2 : decide (0 ≤ placeL tStore (bl x))
  rotate_left
  · as_aux_lemma =>
    go_enter Tryd.func25, Tryd.ntmps25
    go_wp2_with (go_at_call 24; fail)
    refine (placeTurn _ _).mono ?_
    rintro e w' ⟨rfl, rfl⟩
    go_wp2_with (go_at_call 24; fail)
    refine (placeStore _ _).mono ?_
    rintro e w' ⟨rfl, rfl⟩
    go_wp2
    go_ret
    exact ⟨ret_int (by rw [HK.out, h1, h2]; rfl), rfl⟩
  cases h3 : (y.toList == [114, 101, 108])
  rotate_left
  · as_aux_lemma =>
    go_enter Tryd.func25, Tryd.ntmps25
    go_wp2_with (go_at_call 24; fail)
    refine (placeTurn _ _).mono ?_
    rintro e w' ⟨rfl, rfl⟩
    go_wp2_with (go_at_call 24; fail)
    refine (placeStore _ _).mono ?_
    rintro e w' ⟨rfl, rfl⟩
    go_wp2
    go_ret
    exact ⟨ret_int (by rw [HK.out, h1, h2, h3]; rfl), rfl⟩
  cases h4 : (x.toList == [80, 72, 65])
  rotate_left
  · as_aux_lemma =>
    go_enter Tryd.func25, Tryd.ntmps25
    go_wp2_with (go_at_call 24; fail)
    refine (placeTurn _ _).mono ?_
    rintro e w' ⟨rfl, rfl⟩
    go_wp2_with (go_at_call 24; fail)
    refine (placeStore _ _).mono ?_
    rintro e w' ⟨rfl, rfl⟩
    go_wp2
    go_ret
    exact ⟨ret_int (by rw [HK.out, h1, h2, h3, h4]; rfl), rfl⟩
  cases h5 : (x.toList == [80, 72, 80])
  rotate_left
  · as_aux_lemma =>
    go_enter Tryd.func25, Tryd.ntmps25
    go_wp2_with (go_at_call 24; fail)
    refine (placeTurn _ _).mono ?_
    rintro e w' ⟨rfl, rfl⟩
    go_wp2_with (go_at_call 24; fail)
    refine (placeStore _ _).mono ?_
    rintro e w' ⟨rfl, rfl⟩
    go_wp2
    go_ret
    exact ⟨ret_int (by rw [HK.out, h1, h2, h3, h4, h5]; rfl), rfl⟩
  cases h6 : (x.toList == [80, 76, 65])
  rotate_left
  · as_aux_lemma =>
    go_enter Tryd.func25, Tryd.ntmps25
    go_wp2_with (go_at_call 24; fail)
    refine (placeTurn _ _).mono ?_
    rintro e w' ⟨rfl, rfl⟩
    go_wp2_with (go_at_call 24; fail)
    refine (placeStore _ _).mono ?_
    rintro e w' ⟨rfl, rfl⟩
    go_wp2
    go_ret
    exact ⟨ret_int (by rw [HK.out, h1, h2, h3, h4, h5, h6]; rfl), rfl⟩
  cases h7 : (x.toList == [80, 76, 80])
  rotate_left
  · as_aux_lemma =>
    go_enter Tryd.func25, Tryd.ntmps25
    go_wp2_with (go_at_call 24; fail)
    refine (placeTurn _ _).mono ?_
    rintro e w' ⟨rfl, rfl⟩
    go_wp2_with (go_at_call 24; fail)
    refine (placeStore _ _).mono ?_
    rintro e w' ⟨rfl, rfl⟩
    go_wp2
    go_ret
    exact ⟨ret_int (by rw [HK.out, h1, h2, h3, h4, h5, h6, h7]; rfl), rfl⟩
  cases h8 : decide (0 ≤ placeL tJump (bl x))
  rotate_left
  · as_aux_lemma =>
    go_enter Tryd.func25, Tryd.ntmps25
    go_wp2_with (go_at_call 24; fail)
    refine (placeTurn _ _).mono ?_
    rintro e w' ⟨rfl, rfl⟩
    go_wp2_with (go_at_call 24; fail)
    refine (placeStore _ _).mono ?_
    rintro e w' ⟨rfl, rfl⟩
    go_wp2_with (go_at_call 24; fail)
    refine (placeJump _ _).mono ?_
    rintro e w' ⟨rfl, rfl⟩
    go_wp2
    go_ret
    exact ⟨ret_int (by rw [HK.out, h1, h2, h3, h4, h5, h6, h7, h8]; rfl), rfl⟩
  cases h9 : (y.toList == [105, 109, 112])
  rotate_left
  · as_aux_lemma =>
    go_enter Tryd.func25, Tryd.ntmps25
    go_wp2_with (go_at_call 24; fail)
    refine (placeTurn _ _).mono ?_
    rintro e w' ⟨rfl, rfl⟩
    go_wp2_with (go_at_call 24; fail)
    refine (placeStore _ _).mono ?_
    rintro e w' ⟨rfl, rfl⟩
    go_wp2_with (go_at_call 24; fail)
    refine (placeJump _ _).mono ?_
    rintro e w' ⟨rfl, rfl⟩
    go_wp2
    go_ret
    exact ⟨ret_int (by rw [HK.out, h1, h2, h3, h4, h5, h6, h7, h8, h9]; rfl), rfl⟩
  · as_aux_lemma =>
    go_enter Tryd.func25, Tryd.ntmps25
    go_wp2_with (go_at_call 24; fail)
    refine (placeTurn _ _).mono ?_
    rintro e w' ⟨rfl, rfl⟩
    go_wp2_with (go_at_call 24; fail)
    refine (placeStore _ _).mono ?_
    rintro e w' ⟨rfl, rfl⟩
    go_wp2_with (go_at_call 24; fail)
    refine (placeJump _ _).mono ?_
    rintro e w' ⟨rfl, rfl⟩
    go_wp2
    go_ret
    exact ⟨ret_int (by rw [HK.out, h1, h2, h3, h4, h5, h6, h7, h8, h9]; rfl), rfl⟩

end Go.Proofs.YtcbfhjgdnffjlaaDoor.Co
