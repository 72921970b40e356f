/- What the small calls of package motion do: one contract a function. -/
import Derived.Test.YtkondnlilkpdoaaMotM
import Derived.Deep.RegionHeld3
set_option linter.unusedVariables false
namespace Go.Proofs.Ytkondnlilkpdoaa.Mo
open Go.RowKit

set_option maxHeartbeats 400000 in
theorem New (w : World) : Calls Try.prog 9 #[] w fun e w' => ∃ b, e = .returned (.pointer (some ⟨b, 0, none⟩)) ∧ w.heap.size ≤ b ∧ MAt w' b 16 0 0 ∧ Below w.heap.size w w' := by
  go_enter Try.func9, Try.ntmps9
  go_wp2
  go_returns
  have hh := heap_alloc_new w (.cells #[.int .i64 16, .int .i64 0, .int .u8 0] 53)
  exact ⟨_, rfl, Nat.le_refl _, ⟨cell_of_row _ _ _ _ _ _ hh, cell_of_row _ _ _ _ _ _ hh, cell_of_row _ _ _ _ _ _ hh, fun _ => frozen_of_row _ _ _ _ _ hh, by decide⟩, (Below.refl _ w).alloc (Nat.le_refl _) _⟩

set_option maxHeartbeats 400000 in
theorem Strobe (b c g v : Nat) (w : World) (h : MAt w b c g v) : Calls Try.prog 11 #[.pointer (some ⟨b, 0, none⟩)] w fun e w' => e = .returned (.tuple #[]) ∧ MAt w' b 0 0 31 ∧ Turn b w w' := by
  have H : Hid (MAt w b c g v) := h
  obtain ⟨h0, h1, h2, hf, _⟩ := h
  have f0 := hf 0
  have f1 := hf 1
  have f2 := hf 2
  clear hf
  go_enter Try.func11, Try.ntmps11
  go_wp2
  go_end0
  exact ⟨rfl, ((H.out.put0 0 (by decide)).put1 0 (by decide)).put2 31 (by decide), (((Turn.refl _ _).set _ _).set _ _).set _ _⟩

set_option maxHeartbeats 400000 in
theorem Busy (b c g v : Nat) (w : World) (h : MAt w b c g v) : Calls Try.prog 20 #[.pointer (some ⟨b, 0, none⟩)] w fun e w' => e = .returned (.bool (decide (c < 16))) ∧ w' = w := by
  have HE : Hid (((c : Int) != 16) = decide (c < 16)) := (show ((c : Int) != 16) = decide (c < 16) by rw [Bool.eq_iff_iff]; simp; have := h.ok; omega)
  obtain ⟨h0, h1, h2, hf, _⟩ := h
  clear hf
  go_enter Try.func20, Try.ntmps20
  go_wp2
  go_returns
  exact ⟨ret_bool HE.out, rfl⟩

set_option maxHeartbeats 400000 in
theorem Words (b c g v : Nat) (w : World) (h : MAt w b c g v) : Calls Try.prog 18 #[.pointer (some ⟨b, 0, none⟩)] w fun e w' => e = .returned (.agg #[.int .i64 (c : Int), .int .i64 (g : Int), .int .i64 (v : Int)]) ∧ Below w.heap.size w w' := by
  obtain ⟨h0, h1, h2, hf, _, _, hv⟩ := h
  have e3 : IntKind.i64.wrap (v : Int) = v := by rw [IntKind.wrap_i64]; omega
  clear hf
  go_enter Try.func18, Try.ntmps18
  go_wp2
  go_region_held3 (fun w' => w'.cell? ⟨b, 0, none⟩ = some (.int .i64 (c : Int)) ∧ w'.cell? ⟨b, 1, none⟩ = some (.int .i64 (g : Int)) ∧ w'.cell? ⟨b, 2, none⟩ = some (.int .u8 (v : Int))) (go_keep) (fail)
  all_goals go_wp2
  all_goals go_returns
  all_goals exact ⟨rfl, by go_grown⟩

/-- Is a number from 0 to a last one? -/
def wi (n l : Int) : Bool := decide (0 ≤ n) && decide (n ≤ l)

set_option maxHeartbeats 400000 in
theorem within (n l : Int) (w : World) : Calls Try.prog 31 #[.int .i64 n, .int .i64 l] w fun e w' => e = .returned (.bool (wi n l)) ∧ w' = w := by
  by_cases h : 0 ≤ n
  · have HE : Hid (decide (n ≤ l) = wi n l) := (show decide (n ≤ l) = wi n l by simp [wi, h])
    go_enter Try.func31, Try.ntmps31
    go_wp2
    go_returns
    exact ⟨ret_bool HE.out, rfl⟩
  · have HE : Hid (false = wi n l) := (show false = wi n l by simp [wi, h])
    go_enter Try.func31, Try.ntmps31
    go_wp2
    go_returns
    exact ⟨ret_bool HE.out, rfl⟩

/-- May these be a motion's words? -/
def rightB (x y z : Int) : Bool := if x = 16 then (y == 0 && z == 0) else wi x 16 && wi y 3 && wi z 31

set_option maxHeartbeats 400000 in
theorem canBe (x y z : Int) (w : World) : Calls Try.prog 25 #[.int .i64 x, .int .i64 y, .int .i64 z] w fun e w' => e = .returned (.bool (rightB x y z)) ∧ w' = w := by
  by_cases h : x = 16
  · have h' : (x == 16) = true := beq_iff_eq.2 h
    cases hy : (y == 0)
    · have HE : Hid (false = rightB x y z) := (show false = rightB x y z by unfold rightB; rw [if_pos h, hy]; rfl)
      clear h
      go_enter Try.func25, Try.ntmps25
      go_wp2
      go_returns
      exact ⟨ret_bool HE.out, rfl⟩
    · have HE : Hid ((z == 0) = rightB x y z) := (show (z == 0) = rightB x y z by unfold rightB; rw [if_pos h, hy]; rfl)
      clear h
      go_enter Try.func25, Try.ntmps25
      go_wp2
      go_returns
      exact ⟨ret_bool HE.out, rfl⟩
  · have h' : (x == 16) = false := beq_eq_false_iff_ne.2 h
    obtain ⟨p, hp⟩ : ∃ p, wi x 16 = p := ⟨_, rfl⟩
    obtain ⟨q, hq⟩ : ∃ q, wi y 3 = q := ⟨_, rfl⟩
    obtain ⟨r, hr⟩ : ∃ r, wi z 31 = r := ⟨_, rfl⟩
    have HE : Hid ((p && q && r) = rightB x y z) := (show (p && q && r) = rightB x y z by unfold rightB; rw [if_neg h, hp, hq, hr])
    have HP : Hid (wi x 16 = p) := hp
    have HQ : Hid (wi y 3 = q) := hq
    have HR : Hid (wi z 31 = r) := hr
    clear h hp hq hr
    cases p
    · go_enter Try.func25, Try.ntmps25
      go_wp2_with (go_at_call 31; fail)
      refine (within x 16 _).mono ?_
      rintro e w1 ⟨rfl, rfl⟩
      rw [HP.out]
      go_wp2
      go_returns
      exact ⟨ret_bool HE.out, rfl⟩
    cases q
    · go_enter Try.func25, Try.ntmps25
      go_wp2_with (go_at_call 31; fail)
      refine (within x 16 _).mono ?_
      rintro e w1 ⟨rfl, rfl⟩
      rw [HP.out]
      go_wp2_with (go_at_call 31; fail)
      refine (within y 3 _).mono ?_
      rintro e w1 ⟨rfl, rfl⟩
      rw [HQ.out]
      go_wp2
      go_returns
      exact ⟨ret_bool HE.out, rfl⟩
    · go_enter Try.func25, Try.ntmps25
      go_wp2_with (go_at_call 31; fail)
      refine (within x 16 _).mono ?_
      rintro e w1 ⟨rfl, rfl⟩
      rw [HP.out]
      go_wp2_with (go_at_call 31; fail)
      refine (within y 3 _).mono ?_
      rintro e w1 ⟨rfl, rfl⟩
      rw [HQ.out]
      go_wp2_with (go_at_call 31; fail)
      refine (within z 31 _).mono ?_
      rintro e w1 ⟨rfl, rfl⟩
      rw [HR.out]
      go_wp2
      go_returns
      exact ⟨ret_bool (by simpa using HE.out), rfl⟩

set_option maxHeartbeats 400000 in
theorem moves (n : Nat) (w : World) (hn : n < 256) : Calls Try.prog 28 #[.int .u8 (n : Int)] w fun e w' => e = .returned (.int .i64 (mvN n : Int)) ∧ w' = w := by
  have HE : bits .xor .u8 ((n : Int) % 16) 8 = (mvN n : Int) := mv_mod n hn
  have hl := mvN_lt n
  go_enter Try.func28, Try.ntmps28
  go_wp2
  go_returns
  exact ⟨rfl, rfl⟩

set_option maxHeartbeats 400000 in
theorem next_last (b g v : Nat) (w : World) (h : MAt w b 15 g v) : Calls Try.prog 29 #[.pointer (some ⟨b, 0, none⟩)] w fun e w' => e = .returned (.tuple #[]) ∧ MAt w' b 16 0 0 ∧ Turn b w w' := by
  have H : Hid (MAt w b 15 g v) := h
  obtain ⟨h0, h1, h2, hf, _⟩ := h
  have f0 := hf 0
  have f1 := hf 1
  have f2 := hf 2
  clear hf
  go_enter Try.func29, Try.ntmps29
  go_wp2
  go_end0
  exact ⟨rfl, (((H.out.put0 16 (by decide)).put0 16 (by decide)).put1 0 (by decide)).put2 0 (by decide), ((((Turn.refl _ _).set _ _).set _ _).set _ _).set _ _⟩

set_option maxHeartbeats 400000 in
theorem next_more (b c g v : Nat) (w : World) (hc : c < 15) (h : MAt w b c g v) : Calls Try.prog 29 #[.pointer (some ⟨b, 0, none⟩)] w fun e w' => e = .returned (.tuple #[]) ∧ MAt w' b (c + 1) g v ∧ Turn b w w' := by
  have H : Hid (MAt w b c g v) := h
  obtain ⟨h0, h1, h2, hf, _⟩ := h
  have f0 := hf 0
  clear hf
  have hne : ((c : Int) + 1 == 16) = false := beq_eq_false_iff_ne.2 (by omega)
  go_enter Try.func29, Try.ntmps29
  go_wp2
  go_end0
  exact ⟨rfl, by have := H.out.put0 (c + 1) (by omega); simpa using this, (Turn.refl _ _).set _ _⟩

set_option maxHeartbeats 400000 in
theorem Copy (b c g v : Nat) (w : World) (h : MAt w b c g v) : Calls Try.prog 24 #[.pointer (some ⟨b, 0, none⟩)] w fun e w' => ∃ b', e = .returned (.pointer (some ⟨b', 0, none⟩)) ∧ w.heap.size ≤ b' ∧ MAt w' b' c g v ∧ Below w.heap.size w w' := by
  have H : Hid (MAt w b c g v) := h
  obtain ⟨h0, h1, h2, hf, _⟩ := h
  clear hf
  go_enter Try.func24, Try.ntmps24
  go_wp2
  go_returns
  have hh := heap_alloc_new w (.cells #[.int .i64 (c : Int), .int .i64 (g : Int), .int .u8 (v : Int)] 53)
  exact ⟨_, rfl, Nat.le_refl _, ⟨cell_of_row _ _ _ _ _ _ hh, cell_of_row _ _ _ _ _ _ hh, cell_of_row _ _ _ _ _ _ hh, fun _ => frozen_of_row _ _ _ _ _ hh, H.out.ok⟩, (Below.refl _ w).alloc (Nat.le_refl _) _⟩

set_option maxHeartbeats 400000 in
theorem Strobe_nil (w : World) : Calls Try.prog 11 #[.pointer none] w fun e w' => e = .returned (.tuple #[]) ∧ w' = w := by
  go_enter Try.func11, Try.ntmps11
  go_wp2
  first | (go_end0; exact ⟨rfl, rfl⟩) | (go_returns; exact ⟨rfl, rfl⟩)
set_option maxHeartbeats 400000 in
theorem Busy_nil (w : World) : Calls Try.prog 20 #[.pointer none] w fun e w' => e = .returned (.bool false) ∧ w' = w := by
  go_enter Try.func20, Try.ntmps20
  go_wp2
  go_returns
  exact ⟨rfl, rfl⟩
set_option maxHeartbeats 400000 in
theorem Words_nil (w : World) : Calls Try.prog 18 #[.pointer none] w fun e w' => e = .returned (.agg #[.int .i64 0, .int .i64 0, .int .i64 0]) ∧ Below w.heap.size w w' := by
  go_enter Try.func18, Try.ntmps18
  go_wp2
  go_returns
  exact ⟨rfl, by go_grown⟩
set_option maxHeartbeats 400000 in
theorem Set_nil (x y z : Int) (w : World) : Calls Try.prog 13 #[.pointer none, .agg #[.int .i64 x, .int .i64 y, .int .i64 z]] w fun e w' => e = .returned (.int .i64 1) ∧ Below w.heap.size w w' := by
  go_enter Try.func13, Try.ntmps13
  go_wp2
  go_returns
  exact ⟨rfl, by go_grown⟩
set_option maxHeartbeats 400000 in
theorem Copy_nil (w : World) : Calls Try.prog 24 #[.pointer none] w fun e w' => e = .returned (.pointer none) ∧ w' = w := by
  go_enter Try.func24, Try.ntmps24
  go_wp2
  go_returns
  exact ⟨rfl, rfl⟩

end Go.Proofs.Ytkondnlilkpdoaa.Mo
