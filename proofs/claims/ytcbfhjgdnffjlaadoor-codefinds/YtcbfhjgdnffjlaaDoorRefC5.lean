/- What a code is, by the document. -/
import Derived.Test.YtcbfhjgdnffjlaaDoorRefC4
import Derived.Test.YtcbfhjgdnffjlaaDoorCode8
namespace Go.Proofs.YtcbfhjgdnffjlaaDoor.Co
open Go.RowKit

theorem lineB_size : ∀ r, r < 16 → (lineB r).size ≤ 200 := by decide +kernel
/-- The document's word of a code, its name and its mode's. -/
def wordR (op : Nat) : ByteArray := wordB (lineB (op / 16)) ((op : Int) % 16) 44
def nameR (op : Nat) : ByteArray := wordB (wordR op) 0 32
def textR (op : Nat) : ByteArray := wordB (wordR op) 1 32
def knownR (op : Nat) : Bool := if decide (placeL tOdd (bl (nameR op)) < 0) then (if op = 235 then false else if (nameR op).toList == [78, 79, 80] then ((op : Int) == 234) else true) else false
def modeR (op : Nat) : Int := placeL tMode (bl (textR op))
def kindQ (op : Nat) : Int := kindR (bl (nameR op)) (bl (textR op))
theorem wordR_size (op : Nat) (h : op < 256) : (wordR op).size ≤ 200 := Nat.le_trans (wordB_size _ _ _) (lineB_size _ (by omega))
def codeR (op : Nat) : Array Value := #[.string (nameR op), .int .i64 (modeR op), .int .i64 (kindQ op), .bool (knownR op)]

theorem wordC (op : Nat) (j : Int) (w : World) (h : op < 256) (hj : j = (op : Int) % 16) : Calls Tryd.prog 22 #[.string (lineB (op / 16)), .int .i64 j, .int .u8 44] w fun e w' => e = .returned (.string (wordR op)) ∧ w' = w := by
  subst hj
  exact word _ _ _ _ (Nat.le_trans (lineB_size _ (by omega)) (by decide)) (by omega) (by omega)
theorem nameW (op : Nat) (w : World) (h : op < 256) : Calls Tryd.prog 22 #[.string (wordR op), .int .i64 0, .int .u8 32] w fun e w' => e = .returned (.string (nameR op)) ∧ w' = w :=
  word _ _ _ _ (Nat.le_trans (wordR_size op h) (by decide)) (by decide) (by decide)
theorem textW (op : Nat) (w : World) (h : op < 256) : Calls Tryd.prog 22 #[.string (wordR op), .int .i64 1, .int .u8 32] w fun e w' => e = .returned (.string (textR op)) ∧ w' = w :=
  word _ _ _ _ (Nat.le_trans (wordR_size op h) (by decide)) (by decide) (by decide)

set_option maxRecDepth 100000 in
set_option maxHeartbeats 4000000 in
theorem ROf (op : Nat) (w : World) (h : op < 256) : Calls Tryd.prog 8 #[.int .i64 (op : Int)] w fun e w' => e = .returned (.agg (codeR op)) ∧ Below w.heap.size w w' := by
  have HV : Hid (codeR op = #[.string (nameR op), .int .i64 (placeL tMode (bl (textR op))), .int .i64 (kindR (bl (nameR op)) (bl (textR op))), .bool (knownR op)]) := (rfl : _ = _)
  have HK : Hid (knownR op = if decide (placeL tOdd (bl (nameR op)) < 0) then (if op = 235 then false else if (nameR op).toList == [78, 79, 80] then ((op : Int) == 234) else true) else false) := (rfl : _ = _)
  have HL : Hid (∀ (j : Int) w, j = ((op / 16 : Nat) : Int) → Calls Tryd.prog 23 #[.int .i64 j] w fun e w' => e = .returned (.string (lineB (op / 16))) ∧ w' = w) := fun j w hj => by subst hj; exact lines (op / 16) w (by omega)
  cases h1 : decide (placeL tOdd (bl (nameR op)) < 0)
  · have HB : Hid (knownR op = false) := by show _ = _; rw [HK.out, h1]; rfl
    as_aux_lemma =>
      go_enter Tryd.func8, Tryd.ntmps8
      go_wp2_with (first | (go_at_call 23; refine (HL.out _ _ (by omega)).mono ?_; rintro e w' ⟨rfl, rfl⟩) | (go_at_call 22; fail))
      refine (wordC op _ _ h rfl).mono ?_
      rintro e w' ⟨rfl, rfl⟩
      go_wp2_with (go_at_call 22; fail)
      refine (nameW op _ h).mono ?_
      rintro e w' ⟨rfl, rfl⟩
      go_wp2_with (go_at_call 22; fail)
      refine (textW op _ h).mono ?_
      rintro e w' ⟨rfl, rfl⟩
      go_wp2_with (go_at_call 24; fail)
      refine (placeOdd _ _).mono ?_
      rintro e w' ⟨rfl, rfl⟩
      go_wp2_with (go_at_call 24; fail)
      refine (placeMode _ _).mono ?_
      rintro e w' ⟨rfl, rfl⟩
      go_wp2_with (go_at_call 25; refine (kind _ _ _).mono ?_; rintro e w' ⟨rfl, rfl⟩)
      exact bodyPost_ret (v := .agg (codeR op)) (by simp [results, Tryd.results8, go_sem]; rw [HV.out, HB.out]) rfl ⟨rfl, (Below.refl _ _).alloc (Nat.le_refl _) _⟩
  by_cases h2 : op = 235
  · have HB : Hid (knownR op = false) := by show _ = _; rw [HK.out, h1, if_pos h2]; rfl
    have h2b : ((op : Int) != 235) = false := by simp; omega
    clear h2
    as_aux_lemma =>
      go_enter Tryd.func8, Tryd.ntmps8
      go_wp2_with (first | (go_at_call 23; refine (HL.out _ _ (by omega)).mono ?_; rintro e w' ⟨rfl, rfl⟩) | (go_at_call 22; fail))
      refine (wordC op _ _ h rfl).mono ?_
      rintro e w' ⟨rfl, rfl⟩
      go_wp2_with (go_at_call 22; fail)
      refine (nameW op _ h).mono ?_
      rintro e w' ⟨rfl, rfl⟩
      go_wp2_with (go_at_call 22; fail)
      refine (textW op _ h).mono ?_
      rintro e w' ⟨rfl, rfl⟩
      go_wp2_with (go_at_call 24; fail)
      refine (placeOdd _ _).mono ?_
      rintro e w' ⟨rfl, rfl⟩
      go_wp2_with (go_at_call 24; fail)
      refine (placeMode _ _).mono ?_
      rintro e w' ⟨rfl, rfl⟩
      go_wp2_with (go_at_call 25; refine (kind _ _ _).mono ?_; rintro e w' ⟨rfl, rfl⟩)
      exact bodyPost_ret (v := .agg (codeR op)) (by simp [results, Tryd.results8, go_sem]; rw [HV.out, HB.out]) rfl ⟨rfl, (Below.refl _ _).alloc (Nat.le_refl _) _⟩
  have h2b : ((op : Int) != 235) = true := by simp; omega
  cases h3 : ((nameR op).toList == [78, 79, 80])
  · have HB : Hid (knownR op = true) := by show _ = _; rw [HK.out, h1, if_neg h2, h3]; rfl
    clear h2
    as_aux_lemma =>
      go_enter Tryd.func8, Tryd.ntmps8
      go_wp2_with (first | (go_at_call 23; refine (HL.out _ _ (by omega)).mono ?_; rintro e w' ⟨rfl, rfl⟩) | (go_at_call 22; fail))
      refine (wordC op _ _ h rfl).mono ?_
      rintro e w' ⟨rfl, rfl⟩
      go_wp2_with (go_at_call 22; fail)
      refine (nameW op _ h).mono ?_
      rintro e w' ⟨rfl, rfl⟩
      go_wp2_with (go_at_call 22; fail)
      refine (textW op _ h).mono ?_
      rintro e w' ⟨rfl, rfl⟩
      go_wp2_with (go_at_call 24; fail)
      refine (placeOdd _ _).mono ?_
      rintro e w' ⟨rfl, rfl⟩
      go_wp2_with (go_at_call 24; fail)
      refine (placeMode _ _).mono ?_
      rintro e w' ⟨rfl, rfl⟩
      go_wp2_with (go_at_call 25; refine (kind _ _ _).mono ?_; rintro e w' ⟨rfl, rfl⟩)
      exact bodyPost_ret (v := .agg (codeR op)) (by simp [results, Tryd.results8, go_sem]; rw [HV.out, HB.out]) rfl ⟨rfl, (Below.refl _ _).alloc (Nat.le_refl _) _⟩
  · have HB : Hid (knownR op = ((op : Int) == 234)) := by show _ = _; rw [HK.out, h1, if_neg h2, h3]; rfl
    clear h2
    as_aux_lemma =>
      go_enter Tryd.func8, Tryd.ntmps8
      go_wp2_with (first | (go_at_call 23; refine (HL.out _ _ (by omega)).mono ?_; rintro e w' ⟨rfl, rfl⟩) | (go_at_call 22; fail))
      refine (wordC op _ _ h rfl).mono ?_
      rintro e w' ⟨rfl, rfl⟩
      go_wp2_with (go_at_call 22; fail)
      refine (nameW op _ h).mono ?_
      rintro e w' ⟨rfl, rfl⟩
      go_wp2_with (go_at_call 22; fail)
      refine (textW op _ h).mono ?_
      rintro e w' ⟨rfl, rfl⟩
      go_wp2_with (go_at_call 24; fail)
      refine (placeOdd _ _).mono ?_
      rintro e w' ⟨rfl, rfl⟩
      go_wp2_with (go_at_call 24; fail)
      refine (placeMode _ _).mono ?_
      rintro e w' ⟨rfl, rfl⟩
      go_wp2_with (go_at_call 25; refine (kind _ _ _).mono ?_; rintro e w' ⟨rfl, rfl⟩)
      exact bodyPost_ret (v := .agg (codeR op)) (by simp [results, Tryd.results8, go_sem]; rw [HV.out, HB.out]) rfl ⟨rfl, (Below.refl _ _).alloc (Nat.le_refl _) _⟩

end Go.Proofs.YtcbfhjgdnffjlaaDoor.Co
