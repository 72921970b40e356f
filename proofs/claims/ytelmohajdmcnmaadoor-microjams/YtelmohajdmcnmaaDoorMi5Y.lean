/- A byte's place is reached, with an index; a byte is taken; a branch. -/
import Derived.Test.YtelmohajdmcnmaaDoorMi4Y
namespace Go.Proofs.YtelmohajdmcnmaaDoor.Mi
open Go.RowKit Alu Ex
set_option linter.unusedVariables false

theorem ix_lt (c : Cp) (ok : c.ok) : c.ix < 256 := by
  unfold Cp.ix
  by_cases h : c.md = 4 ∨ c.md = 7 ∨ c.md = 9
  · rw [if_pos h]; exact ok.r.x
  · rw [if_neg h]; exact ok.r.y
theorem jn_lt {l h : Nat} (hl : l < 256) (hh : h < 256) : jn l h < 65536 := by unfold jn; omega

set_option maxRecDepth 100000 in
set_option maxHeartbeats 4000000 in
theorem reachIndexed (b : Nat) (c : Cp) (w : World) (h : Row w b c.cells) (ok : c.ok) : Calls Tryd.prog 88 #[.pointer (some ⟨b, 0, none⟩)] w fun e w' => e = .returned (.tuple #[]) ∧ Row w' b (c.ri).cells ∧ Turn b w w' := by
  have H : Hid (Row w b c.cells) := h
  have c13 := h.at_ 13 _ rfl
  have c15 := h.at_ 15 _ rfl
  have c16 := h.at_ 16 _ rfl
  have hf := h.fz
  clear h
  have hix := ix_lt c ok
  have hlo := ok.lo
  have hhi := ok.hi
  have HS : Hid (((c.lo : Int) + (c.ix : Int)) % 256 = (c.sm : Int)) := by show _ = _; unfold Cp.sm; omega
  have hsm : c.sm < 256 := by unfold Cp.sm; omega
  have hlt := jn_lt hsm hhi
  by_cases hA : c.lo ≤ c.sm
  · have hA' : (c.lo : Int) ≤ (c.sm : Int) := by omega
    by_cases hk : c.kd = 1
    · rw [hk] at c13
      have HE : Hid (c.ri = c.ac (jn c.sm c.hi)) := by show _ = _; unfold Cp.ri; rw [if_pos ⟨hA, hk⟩]
      go_enter Tryd.func88, Tryd.ntmps88
      go_wp2
      go_quiet ((go_at_call 60; exact Calls.quiet_of_same (index b c _ (H.out.draws _) ok.md)))
      rw [HS.out]
      go_wp2_with (first
        | (go_at_call 53; refine (join8 c.sm c.hi _ hsm hhi).mono ?_; rintro e w' ⟨rfl, rfl⟩)
        | (go_at_call 59; refine (access b (jn c.sm c.hi) c _ (H.out.draws _) ok hlt).mono ?_; rintro e w1 ⟨rfl, h1, t1⟩))
      go_returns
      exact ⟨rfl, by rw [HE.out]; exact h1, (Turn.draws (Turn.refl b w) _).trans t1⟩
    · have hkb : (c.kd == (1 : Int)) = false := by simpa using hk
      have HE : Hid (c.ri = c.rd (jn c.sm c.hi) 18) := by show _ = _; unfold Cp.ri; rw [if_neg (fun e => hk e.2)]
      go_enter Tryd.func88, Tryd.ntmps88
      go_wp2
      go_quiet ((go_at_call 60; exact Calls.quiet_of_same (index b c _ (H.out.draws _) ok.md)))
      rw [HS.out]
      go_wp2_with (first
        | (go_at_call 53; refine (join8 c.sm c.hi _ hsm hhi).mono ?_; rintro e w' ⟨rfl, rfl⟩)
        | (go_at_call 48; refine (read b (jn c.sm c.hi) 18 c _ (H.out.draws _)).mono ?_; rintro e w1 ⟨rfl, h1, t1⟩))
      go_returns
      exact ⟨rfl, by rw [HE.out]; exact h1, (Turn.draws (Turn.refl b w) _).trans t1⟩
  · have hA' : ¬ (c.lo : Int) ≤ (c.sm : Int) := by omega
    have hk : True := trivial
    have HE : Hid (c.ri = c.rd (jn c.sm c.hi) 18) := by show _ = _; unfold Cp.ri; rw [if_neg (fun e => hA e.1)]
    go_enter Tryd.func88, Tryd.ntmps88
    go_wp2
    go_quiet ((go_at_call 60; exact Calls.quiet_of_same (index b c _ (H.out.draws _) ok.md)))
    rw [HS.out]
    go_wp2_with (first
      | (go_at_call 53; refine (join8 c.sm c.hi _ hsm hhi).mono ?_; rintro e w' ⟨rfl, rfl⟩)
      | (go_at_call 48; refine (read b (jn c.sm c.hi) 18 c _ (H.out.draws _)).mono ?_; rintro e w1 ⟨rfl, h1, t1⟩))
    go_returns
    exact ⟨rfl, by rw [HE.out]; exact h1, (Turn.draws (Turn.refl b w) _).trans t1⟩

theorem tg_lt (c : Cp) : c.tg < 65536 := by unfold Cp.tg; omega
set_option maxRecDepth 100000 in
set_option maxHeartbeats 4000000 in
theorem branch (b : Nat) (c : Cp) (w : World) (h : Row w b c.cells) (ok : c.ok) : Calls Tryd.prog 57 #[.pointer (some ⟨b, 0, none⟩)] w fun e w' => e = .returned (.tuple #[]) ∧ Row w' b c.br.cells ∧ Turn b w w' := by
  have H : Hid (Row w b c.cells) := h
  have c5 := h.at_ 5 _ rfl
  have hf := h.fz
  clear h
  have hpc := ok.r.pc
  have htg := tg_lt c
  have JO : Hid (∀ w, Calls Tryd.prog 61 #[.int .u8 ((c.tg : Int) % 256), .int .u16 ((c.r.pc : Int) / 256)] w fun e w' => e = .returned (.int .u16 ((jn (c.tg % 256) (c.r.pc / 256) : Nat) : Int)) ∧ w' = w) := fun w => by
    have := join16 (c.tg % 256) (c.r.pc / 256) w (by omega) (by omega)
    rwa [show ((c.tg % 256 : Nat) : Int) = (c.tg : Int) % 256 by omega, show ((c.r.pc / 256 : Nat) : Int) = (c.r.pc : Int) / 256 by omega] at this
  by_cases hB : c.tg / 256 = c.r.pc / 256
  · have hB' : ((c.tg : Int) / 256 == (c.r.pc : Int) / 256) = true := by rw [beq_iff_eq]; omega
    have HE : Hid (c.br = c.jp c.tg) := by show _ = _; unfold Cp.br; rw [if_pos hB]
    clear hB
    go_enter Tryd.func57, Tryd.ntmps57
    go_wp2
    go_quiet ((go_at_call 58; exact Calls.quiet_of (target b c _ (H.out.draws _) ok.r.pc ok.lo)))
    go_wp2_with (first
      | (go_at_call 52; refine (jump b c.tg c _ (H.out.draws _)).mono ?_; rintro e w1 ⟨rfl, h1, t1⟩))
    go_returns
    exact ⟨rfl, by rw [HE.out]; exact h1, (Turn.draws (Turn.refl b w) _).trans t1⟩
  · have hB' : ((c.tg : Int) / 256 == (c.r.pc : Int) / 256) = false := by rw [beq_eq_false_iff_ne]; omega
    have HE : Hid (c.br = c.rd (jn (c.tg % 256) (c.r.pc / 256)) 11) := by show _ = _; unfold Cp.br; rw [if_neg hB]
    clear hB
    go_enter Tryd.func57, Tryd.ntmps57
    go_wp2
    go_quiet ((go_at_call 58; exact Calls.quiet_of (target b c _ (H.out.draws _) ok.r.pc ok.lo)))
    go_wp2_with (first
      | (go_at_call 61; refine (JO.out _).mono ?_; rintro e w' ⟨rfl, rfl⟩)
      | (go_at_call 48; refine (read b (jn (c.tg % 256) (c.r.pc / 256)) 11 c _ (H.out.draws _)).mono ?_; rintro e w1 ⟨rfl, h1, t1⟩))
    go_returns
    exact ⟨rfl, by rw [HE.out]; exact h1, (Turn.draws (Turn.refl b w) _).trans t1⟩

set_option maxRecDepth 100000 in
set_option maxHeartbeats 4000000 in
theorem reach (b : Nat) (c : Cp) (w : World) (h : Row w b c.cells) (ok : c.ok) : Calls Tryd.prog 62 #[.pointer (some ⟨b, 0, none⟩)] w fun e w' => e = .returned (.tuple #[]) ∧ Row w' b (c.rc).cells ∧ Turn b w w' := by
  have H : Hid (Row w b c.cells) := h
  have c12 := h.at_ 12 _ rfl
  have c15 := h.at_ 15 _ rfl
  have c16 := h.at_ 16 _ rfl
  have hf := h.fz
  clear h
  have k2 := ok.md
  by_cases hm : c.md = 7 ∨ c.md = 8 ∨ c.md = 10
  · have HE : Hid (c.rc = c.ri) := by show _ = _; unfold Cp.rc; rw [if_pos hm]
    rcases hm with e | e | e
    all_goals
      rw [e] at c12
      go_enter Tryd.func62, Tryd.ntmps62
      go_wp2_with (go_at_call 88; refine (reachIndexed b c _ H.out ok).mono ?_; rintro e w1 ⟨rfl, h1, t1⟩)
      go_returns
      exact ⟨rfl, by rw [HE.out]; exact h1, t1⟩
  · have HE : Hid (c.rc = c.ac (jn c.lo c.hi)) := by show _ = _; unfold Cp.rc; rw [if_neg hm]
    have m7 : ((c.md : Int) == (7 : Int)) = false := by rw [beq_eq_false_iff_ne]; omega
    have m8 : ((c.md : Int) == (8 : Int)) = false := by rw [beq_eq_false_iff_ne]; omega
    have m10 : ((c.md : Int) == (10 : Int)) = false := by rw [beq_eq_false_iff_ne]; omega
    clear hm
    go_enter Tryd.func62, Tryd.ntmps62
    go_wp2
    go_region_with (first
      | (go_at_call 53; refine (join8 c.lo c.hi _ ok.lo ok.hi).mono ?_; rintro e w' ⟨rfl, rfl⟩)
      | (go_at_call 59; refine (access b (jn c.lo c.hi) c _ H.out.drew ok (jn_lt ok.lo ok.hi)).mono ?_; rintro e w1 ⟨rfl, h1, t1⟩))
    all_goals go_wp2
    all_goals go_returns
    all_goals exact ⟨rfl, by rw [HE.out]; exact h1, (Turn.draws (Turn.refl b _) 1).trans t1⟩

end Go.Proofs.YtelmohajdmcnmaaDoor.Mi
