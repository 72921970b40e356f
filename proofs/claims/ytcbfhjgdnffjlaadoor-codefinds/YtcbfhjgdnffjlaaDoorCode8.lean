/- How long a code is, and how many cycles it takes. -/
import Derived.Test.YtcbfhjgdnffjlaaDoorCode7
namespace Go.Proofs.YtcbfhjgdnffjlaaDoor.Co
open Go.RowKit

/-- A mode's length. -/
def lenF (m : Nat) : Int := if m = 0 ∨ m = 1 then 1 else if m = 6 ∨ m = 7 ∨ m = 8 ∨ m = 12 then 3 else 2

theorem modeFrom_le (l : List UInt8) : ∀ (ms : List (List UInt8)) (k n : Nat), k + ms.length ≤ n → modeFrom l k ms ≤ n - 1
  | [], _, _, _ => by simp [modeFrom]
  | m :: ms, k, n, h => by
    simp only [List.length_cons] at h
    unfold modeFrom
    split
    · omega
    · exact modeFrom_le l ms (k + 1) n (by omega)
theorem modeN_le (op : Nat) : modeN op ≤ 12 := by
  unfold modeN modeF
  exact modeFrom_le _ modeL 0 13 (by decide)

set_option maxRecDepth 100000 in
set_option maxHeartbeats 1000000 in
theorem Length (op : Nat) (w : World) (h : op < 256) (ht : Tab w) : Calls Tryd.prog 9 #[.int .u8 (op : Int)] w fun e w' => e = .returned (.int .i64 (lenF (modeN op))) ∧ Below w.heap.size w w' := by
  have hc := cellB_size op h
  have HM : Hid (modeN op = modeF (bl ((cellB op).extract 4 7))) := (rfl : _ = _)
  have hl := modeN_le op
  generalize modeN op = m at HM hl
  have HT : Hid (Tab w) := ht
  clear ht
  rcases (show m = 0 ∨ m = 1 ∨ m = 2 ∨ m = 3 ∨ m = 4 ∨ m = 5 ∨ m = 6 ∨ m = 7 ∨ m = 8 ∨ m = 9 ∨ m = 10 ∨ m = 11 ∨ m = 12 by omega) with rfl | rfl | rfl | rfl | rfl | rfl | rfl | rfl | rfl | rfl | rfl | rfl | rfl
  all_goals
    go_enter Tryd.func9, Tryd.ntmps9
    go_wp2_with (first
      | (go_at_call 17; refine (cellOf op _ h).mono ?_; rintro e w2 ⟨rfl, hB2⟩)
      | (go_at_call 19; refine (mode _ _ hc (HT.out.next hB2)).mono ?_; rw [← HM.out]; rintro e w' ⟨rfl, rfl⟩))
    go_ret
    exact ⟨rfl, hB2⟩

/-- The fewest cycles of a kind and a mode. -/
def cycF (k : Int) (m : Nat) : Int := if k = 0 ∨ k = 1 then readV.getD m 0 else if k = 2 then storeV.getD m 0 else if k = 3 then turnV.getD m 0
  else if k = 4 then 2 else if k = 5 then 3 else if k = 6 then 4 else if k = 7 then (if m = 12 then 5 else 3) else if k = 8 ∨ k = 9 ∨ k = 10 then 6 else if k = 11 then 7 else 0

set_option maxRecDepth 100000 in
set_option maxHeartbeats 1000000 in
theorem otherCycles (k : Int) (m : Nat) (w : World) (hk : 4 ≤ k) (hk2 : k ≤ 12) : Calls Tryd.prog 26 #[.int .u8 k, .int .u8 (m : Int)] w fun e w' => e = .returned (.int .i64 (cycF k m)) ∧ w' = w := by
  rcases (show k = 4 ∨ k = 5 ∨ k = 6 ∨ k = 7 ∨ k = 8 ∨ k = 9 ∨ k = 10 ∨ k = 11 ∨ k = 12 by omega) with rfl | rfl | rfl | rfl | rfl | rfl | rfl | rfl | rfl
  rotate_right 6
  · by_cases hm : m = 12
    · subst hm
      go_enter Tryd.func26, Tryd.ntmps26
      go_wp2
      go_ret
      exact ⟨rfl, rfl⟩
    · have hm2 : ¬ (m : Int) = 12 := by omega
      go_enter Tryd.func26, Tryd.ntmps26
      go_wp2
      go_ret
      exact ⟨ret_int (by simp [cycF, hm]), rfl⟩
  all_goals
    go_enter Tryd.func26, Tryd.ntmps26
    go_wp2
    go_ret
    exact ⟨rfl, rfl⟩

/-- What the table says of a code: its kind is one, and those of the first four kinds have a mode up to izy. -/
def soundB (op : Nat) : Bool := decide (0 ≤ kindN op) && decide (kindN op ≤ 12) && (decide (4 ≤ kindN op) || decide (modeN op ≤ 10))

set_option maxRecDepth 100000 in
theorem sound : ∀ op, op < 256 → soundB op = true := by decide +kernel

theorem cell_of {w : World} {b : Nat} {L : List Int} (h : w.rangeAt b 0 (L.map fun n => .int .i64 n)) (m : Nat) (hm : m < L.length) : w.cell? ⟨b, m, none⟩ = some (.int .i64 (L.getD m 0)) := by
  have := h m (.int .i64 (L.getD m 0)) (by rw [List.getElem?_map, List.getElem?_eq_getElem hm, List.getD_eq_getElem?_getD, List.getElem?_eq_getElem hm]; rfl)
  rwa [Nat.zero_add] at this

theorem cell_alloc {w : World} {b o : Nat} {v : Value} (h : w.cell? ⟨b, o, none⟩ = some v) (hb : b < w.heap.size) (X : Obj) : (w.alloc X).cell? ⟨b, o, none⟩ = some v :=
  (((Below.refl w.heap.size w).alloc (Nat.le_refl _) X).cell (p := ⟨b, o, none⟩) hb).trans h

set_option maxRecDepth 100000 in
set_option maxHeartbeats 2000000 in
theorem Cycles (op : Nat) (w : World) (h : op < 256) (ht : Tab w) : Calls Tryd.prog 11 #[.int .u8 (op : Int)] w fun e w' => e = .returned (.int .i64 (cycF (kindN op) (modeN op))) ∧ Below w.heap.size w w' := by
  have HS := sound op h
  have hml := modeN_le op
  have HO : Hid (∀ w, Tab w → Calls Tryd.prog 7 #[.int .u8 (op : Int)] w fun e w' => e = .returned (.agg #[.string (nameB op), .int .u8 (modeN op), .int .u8 (kindN op), .bool (knownB op)]) ∧ Below w.heap.size w w') := fun w ht => Of op w h ht
  unfold soundB at HS
  generalize kindN op = k at HS HO
  generalize modeN op = m at HS HO hml
  generalize nameB op = n at HO
  generalize knownB op = kn at HO
  simp only [Bool.and_eq_true, Bool.or_eq_true, decide_eq_true_eq] at HS
  obtain ⟨⟨hk0, hk1⟩, hkm⟩ := HS
  have HT : Hid (Tab w) := ht
  clear ht
  by_cases h4 : 4 ≤ k
  · have h0 : ¬ k = 0 := by omega
    have h1 : ¬ k = 1 := by omega
    have h2 : ¬ k = 2 := by omega
    have h3 : ¬ k = 3 := by omega
    go_enter Tryd.func11, Tryd.ntmps11
    go_wp2_with (go_at_call 7; fail)
    refine (HO.out _ HT.out).mono ?_
    rintro e w2 ⟨rfl, hB2⟩
    have HB : Hid (Below w.heap.size w w2) := hB2
    clear hB2
    go_wp2_with (go_at_call 26; refine (otherCycles _ _ _ h4 hk1).mono ?_; rintro e w' ⟨rfl, rfl⟩)
    go_ret
    exact ⟨rfl, HB.out.alloc HB.out.size _⟩
  · have hm10 : m ≤ 10 := by omega
    rcases (show k = 0 ∨ k = 1 ∨ k = 2 ∨ k = 3 by omega) with rfl | rfl | rfl | rfl
    · go_enter Tryd.func11, Tryd.ntmps11
      go_wp2_with (go_at_call 7; fail)
      refine (HO.out _ HT.out).mono ?_
      rintro e w2 ⟨rfl, hB2⟩
      have hc := cell_alloc (cell_of (HT.out.next hB2).rd m (by simp [readV]; omega)) (by have := (HT.out.next hB2).lt; omega)
      have HB : Hid (Below w.heap.size w w2) := hB2
      clear hB2
      go_wp2
      go_ret
      exact ⟨ret_int (by simp [cycF]), HB.out.alloc HB.out.size _⟩
    · go_enter Tryd.func11, Tryd.ntmps11
      go_wp2_with (go_at_call 7; fail)
      refine (HO.out _ HT.out).mono ?_
      rintro e w2 ⟨rfl, hB2⟩
      have hc := cell_alloc (cell_of (HT.out.next hB2).rd m (by simp [readV]; omega)) (by have := (HT.out.next hB2).lt; omega)
      have HB : Hid (Below w.heap.size w w2) := hB2
      clear hB2
      go_wp2
      go_ret
      exact ⟨ret_int (by simp [cycF]), HB.out.alloc HB.out.size _⟩
    · go_enter Tryd.func11, Tryd.ntmps11
      go_wp2_with (go_at_call 7; fail)
      refine (HO.out _ HT.out).mono ?_
      rintro e w2 ⟨rfl, hB2⟩
      have hc := cell_alloc (cell_of (HT.out.next hB2).st m (by simp [storeV]; omega)) (by have := (HT.out.next hB2).lt; omega)
      have HB : Hid (Below w.heap.size w w2) := hB2
      clear hB2
      go_wp2
      go_ret
      exact ⟨ret_int (by simp [cycF]), HB.out.alloc HB.out.size _⟩
    · go_enter Tryd.func11, Tryd.ntmps11
      go_wp2_with (go_at_call 7; fail)
      refine (HO.out _ HT.out).mono ?_
      rintro e w2 ⟨rfl, hB2⟩
      have hc := cell_alloc (cell_of (HT.out.next hB2).tn m (by simp [turnV]; omega)) (by have := (HT.out.next hB2).lt; omega)
      have HB : Hid (Below w.heap.size w w2) := hB2
      clear hB2
      go_wp2
      go_ret
      exact ⟨ret_int (by simp [cycF]), HB.out.alloc HB.out.size _⟩

end Go.Proofs.YtcbfhjgdnffjlaaDoor.Co
