/- A code begins, a byte is taken. -/
import Derived.Test.YtelmohajdmcnmaaDoorMi5
namespace Go.Proofs.YtelmohajdmcnmaaDoor.Mi
open Go.RowKit Alu Ex
set_option linter.unusedVariables false

set_option maxRecDepth 100000 in
set_option maxHeartbeats 4000000 in
theorem takeByMode (b v : Nat) (c : Cp) (w : World) (h : Row w b c.cells) (ok : c.ok) (hv : v < 256) : Calls Tryd.prog 86 #[.pointer (some ⟨b, 0, none⟩), .int .u8 (v : Int)] w fun e w' => e = .returned (.tuple #[]) ∧ Row w' b (c.tm v).cells ∧ Turn b w w' := by
  have H : Hid (Row w b c.cells) := h
  have c0 := h.at_ 0 _ rfl
  have c1 := h.at_ 1 _ rfl
  have c2 := h.at_ 2 _ rfl
  have c3 := h.at_ 3 _ rfl
  have c4 := h.at_ 4 _ rfl
  have c5 := h.at_ 5 _ rfl
  have c11 := h.at_ 11 _ rfl
  have c12 := h.at_ 12 _ rfl
  have hf := h.fz
  clear h
  have RD : Hid (∀ w : World, Calls Tryd.prog 27 #[.string c.nm, .agg #[.int .u8 (c.r.a : Int), .int .u8 (c.r.x : Int), .int .u8 (c.r.y : Int), .int .u8 (c.r.s : Int), .int .u8 (c.r.p : Int), .int .u16 (c.r.pc : Int)], .int .u8 (v : Int)] w fun e w' => e = .returned (.agg #[.int .u8 ((Ex.rd c.nm.toList c.r v).a : Int), .int .u8 ((Ex.rd c.nm.toList c.r v).x : Int), .int .u8 ((Ex.rd c.nm.toList c.r v).y : Int), .int .u8 ((Ex.rd c.nm.toList c.r v).s : Int), .int .u8 ((Ex.rd c.nm.toList c.r v).p : Int), .int .u16 ((Ex.rd c.nm.toList c.r v).pc : Int)]) ∧ Below w.heap.size w w') := fun w => Ex.Read c.nm v c.r hv w ok.r
  have JO : Hid (∀ w, Calls Tryd.prog 53 #[.int .u8 (v : Int), .int .u8 0] w fun e w' => e = .returned (.int .u16 (v : Int)) ∧ w' = w) := fun w => by
    have := join8 v 0 w hv (by decide)
    rwa [show jn v 0 = v by simp [jn]] at this
  have k2 := ok.md
  rcases (show c.md = 0 ∨ c.md = 1 ∨ c.md = 2 ∨ c.md = 3 ∨ c.md = 4 ∨ c.md = 5 ∨ c.md = 6 ∨ c.md = 7 ∨ c.md = 8 ∨ c.md = 9 ∨ c.md = 10 ∨ c.md = 11 ∨ c.md = 12 by omega) with e | e | e | e | e | e | e | e | e | e | e | e | e
  · rw [e] at c12
    have HE : Hid (c.tm v = c.rd c.r.pc 13) := by show _ = _; simp [Cp.tm, e]
    go_enter Tryd.func86, Tryd.ntmps86
    go_wp2_with (first | (go_at_call 53; refine (JO.out _).mono ?_; rintro e w' ⟨rfl, rfl⟩) | (go_at_call 48; refine (read b c.r.pc 13 c _ H.out).mono ?_; rintro e w1 ⟨rfl, h1, t1⟩))
    go_returns
    exact ⟨rfl, by rw [HE.out]; exact h1, t1⟩
  · rw [e] at c12
    have HE : Hid (c.tm v = c.rd c.r.pc 13) := by show _ = _; simp [Cp.tm, e]
    go_enter Tryd.func86, Tryd.ntmps86
    go_wp2_with (first | (go_at_call 53; refine (JO.out _).mono ?_; rintro e w' ⟨rfl, rfl⟩) | (go_at_call 48; refine (read b c.r.pc 13 c _ H.out).mono ?_; rintro e w1 ⟨rfl, h1, t1⟩))
    go_returns
    exact ⟨rfl, by rw [HE.out]; exact h1, t1⟩
  · rw [e] at c12
    have HE : Hid (c.tm v = c.fi (Ex.rd c.nm.toList c.r v)) := by show _ = _; simp [Cp.tm, e]
    generalize Ex.rd c.nm.toList c.r v = q at RD HE
    go_enter Tryd.func86, Tryd.ntmps86
    go_wp2_with (first | (go_at_call 53; refine (JO.out _).mono ?_; rintro e w' ⟨rfl, rfl⟩))
    go_region_with (first
      | (go_at_call 27; refine (RD.out _).mono ?_; rintro e w1 ⟨rfl, hB1⟩; have HR1 : Hid (Row w1 b c.cells) := H.out.drew.below c.pos hB1; have hT1 : Hid (Turn b _ w1) := (Turn.draws (Turn.refl b _) 1).trans (Turn.of_below hB1))
      | (go_at_call 63; refine (finish b c q _ HR1.out).mono ?_; rintro e w2 ⟨rfl, h2, t2⟩))
    all_goals go_wp2
    all_goals go_returns
    all_goals exact ⟨rfl, by rw [HE.out]; exact h2, hT1.out.trans t2⟩
  · rw [e] at c12
    have HE : Hid (c.tm v = c.ac v) := by show _ = _; simp [Cp.tm, e]
    go_enter Tryd.func86, Tryd.ntmps86
    go_wp2_with (first | (go_at_call 53; refine (JO.out _).mono ?_; rintro e w' ⟨rfl, rfl⟩) | (go_at_call 59; refine (access b v c _ H.out ok (by omega)).mono ?_; rintro e w1 ⟨rfl, h1, t1⟩))
    go_returns
    exact ⟨rfl, by rw [HE.out]; exact h1, t1⟩
  · rw [e] at c12
    have HE : Hid (c.tm v = c.rd v 14) := by show _ = _; simp [Cp.tm, e]
    go_enter Tryd.func86, Tryd.ntmps86
    go_wp2_with (first | (go_at_call 53; refine (JO.out _).mono ?_; rintro e w' ⟨rfl, rfl⟩) | (go_at_call 48; refine (read b v 14 c _ H.out).mono ?_; rintro e w1 ⟨rfl, h1, t1⟩))
    go_returns
    exact ⟨rfl, by rw [HE.out]; exact h1, t1⟩
  · rw [e] at c12
    have HE : Hid (c.tm v = c.rd v 14) := by show _ = _; simp [Cp.tm, e]
    go_enter Tryd.func86, Tryd.ntmps86
    go_wp2_with (first | (go_at_call 53; refine (JO.out _).mono ?_; rintro e w' ⟨rfl, rfl⟩) | (go_at_call 48; refine (read b v 14 c _ H.out).mono ?_; rintro e w1 ⟨rfl, h1, t1⟩))
    go_returns
    exact ⟨rfl, by rw [HE.out]; exact h1, t1⟩
  · rw [e] at c12
    have HE : Hid (c.tm v = c.rd c.r.pc 13) := by show _ = _; simp [Cp.tm, e]
    go_enter Tryd.func86, Tryd.ntmps86
    go_wp2_with (first | (go_at_call 53; refine (JO.out _).mono ?_; rintro e w' ⟨rfl, rfl⟩) | (go_at_call 48; refine (read b c.r.pc 13 c _ H.out).mono ?_; rintro e w1 ⟨rfl, h1, t1⟩))
    go_returns
    exact ⟨rfl, by rw [HE.out]; exact h1, t1⟩
  · rw [e] at c12
    have HE : Hid (c.tm v = c.rd c.r.pc 13) := by show _ = _; simp [Cp.tm, e]
    go_enter Tryd.func86, Tryd.ntmps86
    go_wp2_with (first | (go_at_call 53; refine (JO.out _).mono ?_; rintro e w' ⟨rfl, rfl⟩) | (go_at_call 48; refine (read b c.r.pc 13 c _ H.out).mono ?_; rintro e w1 ⟨rfl, h1, t1⟩))
    go_returns
    exact ⟨rfl, by rw [HE.out]; exact h1, t1⟩
  · rw [e] at c12
    have HE : Hid (c.tm v = c.rd c.r.pc 13) := by show _ = _; simp [Cp.tm, e]
    go_enter Tryd.func86, Tryd.ntmps86
    go_wp2_with (first | (go_at_call 53; refine (JO.out _).mono ?_; rintro e w' ⟨rfl, rfl⟩) | (go_at_call 48; refine (read b c.r.pc 13 c _ H.out).mono ?_; rintro e w1 ⟨rfl, h1, t1⟩))
    go_returns
    exact ⟨rfl, by rw [HE.out]; exact h1, t1⟩
  · rw [e] at c12
    have HE : Hid (c.tm v = c.rd v 15) := by show _ = _; simp [Cp.tm, e]
    go_enter Tryd.func86, Tryd.ntmps86
    go_wp2_with (first | (go_at_call 53; refine (JO.out _).mono ?_; rintro e w' ⟨rfl, rfl⟩) | (go_at_call 48; refine (read b v 15 c _ H.out).mono ?_; rintro e w1 ⟨rfl, h1, t1⟩))
    go_returns
    exact ⟨rfl, by rw [HE.out]; exact h1, t1⟩
  · rw [e] at c12
    have HE : Hid (c.tm v = c.rd v 16) := by show _ = _; simp [Cp.tm, e]
    go_enter Tryd.func86, Tryd.ntmps86
    go_wp2_with (first | (go_at_call 53; refine (JO.out _).mono ?_; rintro e w' ⟨rfl, rfl⟩) | (go_at_call 48; refine (read b v 16 c _ H.out).mono ?_; rintro e w1 ⟨rfl, h1, t1⟩))
    go_returns
    exact ⟨rfl, by rw [HE.out]; exact h1, t1⟩
  · rw [e] at c12
    have HE : Hid (c.tm v = c.rd c.r.pc 13) := by show _ = _; simp [Cp.tm, e]
    go_enter Tryd.func86, Tryd.ntmps86
    go_wp2_with (first | (go_at_call 53; refine (JO.out _).mono ?_; rintro e w' ⟨rfl, rfl⟩) | (go_at_call 48; refine (read b c.r.pc 13 c _ H.out).mono ?_; rintro e w1 ⟨rfl, h1, t1⟩))
    go_returns
    exact ⟨rfl, by rw [HE.out]; exact h1, t1⟩
  · rw [e] at c12
    have HE : Hid (c.tm v = c.rd c.r.pc 13) := by show _ = _; simp [Cp.tm, e]
    go_enter Tryd.func86, Tryd.ntmps86
    go_wp2_with (first | (go_at_call 53; refine (JO.out _).mono ?_; rintro e w' ⟨rfl, rfl⟩) | (go_at_call 48; refine (read b c.r.pc 13 c _ H.out).mono ?_; rintro e w1 ⟨rfl, h1, t1⟩))
    go_returns
    exact ⟨rfl, by rw [HE.out]; exact h1, t1⟩

set_option maxRecDepth 100000 in
set_option maxHeartbeats 4000000 in
theorem take (b v : Nat) (c : Cp) (w : World) (h : Row w b c.cells) (ok : c.ok) (hv : v < 256) : Calls Tryd.prog 56 #[.pointer (some ⟨b, 0, none⟩), .int .u8 (v : Int)] w fun e w' => e = .returned (.tuple #[]) ∧ Row w' b (c.tk v).cells ∧ Turn b w w' := by
  have H : Hid (Row w b c.cells) := h
  have c4 := h.at_ 4 _ rfl
  have c5 := h.at_ 5 _ rfl
  have c11 := h.at_ 11 _ rfl
  have c13 := h.at_ 13 _ rfl
  have c15 := h.at_ 15 _ rfl
  have c16 := h.at_ 16 _ rfl
  have hf := h.fz
  have HL : Hid (Row ((w.setCell ⟨b, 15, none⟩ (.int .u8 (v : Int))).setCell ⟨b, 16, none⟩ (.int .u8 0)) b (c.sl v 0).cells) := ((h.put 15 _).put 16 _).to rfl
  clear h
  have okl : (c.sl v 0).ok := ⟨ok.r, ok.st, ok.ad, ok.da, ok.op, ok.md, ok.kd0, ok.kd1, hv, (by decide : 0 < 256), ok.rb⟩
  have hpc := ok.r.pc
  have hp := ok.r.p
  have HP : Hid ((c.r.pc : Int) / 256 = ((c.r.pc / 256 : Nat) : Int)) := by show _ = _; omega
  have GO : Hid (∀ w, Calls Tryd.prog 85 #[.string c.nm, .int .u8 (c.r.p : Int)] w fun e w' => e = .returned (.bool (gs c.nm.toList c.r.p)) ∧ w' = w) := fun w => Ex.Goes c.nm c.r.p w hp
  have k0 := ok.kd0
  have k1 := ok.kd1
  rcases (show c.kd = 0 ∨ c.kd = 1 ∨ c.kd = 2 ∨ c.kd = 3 ∨ c.kd = 4 ∨ c.kd = 5 ∨ c.kd = 6 ∨ c.kd = 7 ∨ c.kd = 8 ∨ c.kd = 9 ∨ c.kd = 10 ∨ c.kd = 11 ∨ c.kd = 12 by omega) with e | e | e | e | e | e | e | e | e | e | e | e | e
  · rw [e] at c13
    have HE : Hid (c.tk v = (c.sl v 0).tm v) := by show _ = _; simp [Cp.tk, Cp.t1, Cp.sl, e]
    go_enter Tryd.func56, Tryd.ntmps56
    go_wp2_with (first | (go_at_call 86; refine (takeByMode b v (c.sl v 0) _ HL.out okl hv).mono ?_; rintro e w1 ⟨rfl, h1, t1⟩))
    go_returns
    exact ⟨rfl, by rw [HE.out]; exact h1, (Turn.set (Turn.set (Turn.refl b w) _ _) _ _).trans t1⟩
  · rw [e] at c13
    have HE : Hid (c.tk v = (c.sl v 0).tm v) := by show _ = _; simp [Cp.tk, Cp.t1, Cp.sl, e]
    go_enter Tryd.func56, Tryd.ntmps56
    go_wp2_with (first | (go_at_call 86; refine (takeByMode b v (c.sl v 0) _ HL.out okl hv).mono ?_; rintro e w1 ⟨rfl, h1, t1⟩))
    go_returns
    exact ⟨rfl, by rw [HE.out]; exact h1, (Turn.set (Turn.set (Turn.refl b w) _ _) _ _).trans t1⟩
  · rw [e] at c13
    have HE : Hid (c.tk v = (c.sl v 0).tm v) := by show _ = _; simp [Cp.tk, Cp.t1, Cp.sl, e]
    go_enter Tryd.func56, Tryd.ntmps56
    go_wp2_with (first | (go_at_call 86; refine (takeByMode b v (c.sl v 0) _ HL.out okl hv).mono ?_; rintro e w1 ⟨rfl, h1, t1⟩))
    go_returns
    exact ⟨rfl, by rw [HE.out]; exact h1, (Turn.set (Turn.set (Turn.refl b w) _ _) _ _).trans t1⟩
  · rw [e] at c13
    have HE : Hid (c.tk v = (c.sl v 0).tm v) := by show _ = _; simp [Cp.tk, Cp.t1, Cp.sl, e]
    go_enter Tryd.func56, Tryd.ntmps56
    go_wp2_with (first | (go_at_call 86; refine (takeByMode b v (c.sl v 0) _ HL.out okl hv).mono ?_; rintro e w1 ⟨rfl, h1, t1⟩))
    go_returns
    exact ⟨rfl, by rw [HE.out]; exact h1, (Turn.set (Turn.set (Turn.refl b w) _ _) _ _).trans t1⟩
  · rw [e] at c13
    cases hg : gs c.nm.toList c.r.p
    · have HE : Hid (c.tk v = (c.sl v 0).ft) := by show _ = _; simp [Cp.tk, Cp.t1, Cp.sl, e, hg]
      rw [hg] at GO
      go_enter Tryd.func56, Tryd.ntmps56
      go_wp2
      go_quiet ((go_at_call 85; exact Calls.quiet_of_same (GO.out _)))
      go_wp2_with (first | (go_at_call 36; refine (fetch b (c.sl v 0) _ (HL.out.draws _)).mono ?_; rintro e w1 ⟨rfl, h1, t1⟩))
      go_returns
      exact ⟨rfl, by rw [HE.out]; exact h1, (Turn.draws (Turn.set (Turn.set (Turn.refl b w) _ _) _ _) _).trans t1⟩
    · have HE : Hid (c.tk v = (c.sl v 0).rd c.r.pc 10) := by show _ = _; simp [Cp.tk, Cp.t1, Cp.sl, e, hg]
      rw [hg] at GO
      go_enter Tryd.func56, Tryd.ntmps56
      go_wp2
      go_quiet ((go_at_call 85; exact Calls.quiet_of_same (GO.out _)))
      go_wp2_with (first | (go_at_call 48; refine (read b c.r.pc 10 (c.sl v 0) _ (HL.out.draws _)).mono ?_; rintro e w1 ⟨rfl, h1, t1⟩))
      go_returns
      exact ⟨rfl, by rw [HE.out]; exact h1, (Turn.draws (Turn.set (Turn.set (Turn.refl b w) _ _) _ _) _).trans t1⟩
  · rw [e] at c13
    have HE : Hid (c.tk v = (c.sl v 0).tm v) := by show _ = _; simp [Cp.tk, Cp.t1, Cp.sl, e]
    go_enter Tryd.func56, Tryd.ntmps56
    go_wp2_with (first | (go_at_call 86; refine (takeByMode b v (c.sl v 0) _ HL.out okl hv).mono ?_; rintro e w1 ⟨rfl, h1, t1⟩))
    go_returns
    exact ⟨rfl, by rw [HE.out]; exact h1, (Turn.set (Turn.set (Turn.refl b w) _ _) _ _).trans t1⟩
  · rw [e] at c13
    have HE : Hid (c.tk v = (c.sl v 0).tm v) := by show _ = _; simp [Cp.tk, Cp.t1, Cp.sl, e]
    go_enter Tryd.func56, Tryd.ntmps56
    go_wp2_with (first | (go_at_call 86; refine (takeByMode b v (c.sl v 0) _ HL.out okl hv).mono ?_; rintro e w1 ⟨rfl, h1, t1⟩))
    go_returns
    exact ⟨rfl, by rw [HE.out]; exact h1, (Turn.set (Turn.set (Turn.refl b w) _ _) _ _).trans t1⟩
  · rw [e] at c13
    have HE : Hid (c.tk v = (c.sl v 0).tm v) := by show _ = _; simp [Cp.tk, Cp.t1, Cp.sl, e]
    go_enter Tryd.func56, Tryd.ntmps56
    go_wp2_with (first | (go_at_call 86; refine (takeByMode b v (c.sl v 0) _ HL.out okl hv).mono ?_; rintro e w1 ⟨rfl, h1, t1⟩))
    go_returns
    exact ⟨rfl, by rw [HE.out]; exact h1, (Turn.set (Turn.set (Turn.refl b w) _ _) _ _).trans t1⟩
  · rw [e] at c13
    have HE : Hid (c.tk v = (c.sl v 0).rd (jn c.r.s 1) 23) := by show _ = _; simp [Cp.tk, Cp.t1, Cp.sl, e]
    go_enter Tryd.func56, Tryd.ntmps56
    go_wp2_with (first | (go_at_call 51; refine (stack b (c.sl v 0) _ HL.out ok.r.s).mono ?_; rintro e w' ⟨rfl, rfl⟩) | (go_at_call 48; refine (read b (jn c.r.s 1) 23 (c.sl v 0) _ HL.out).mono ?_; rintro e w1 ⟨rfl, h1, t1⟩))
    go_returns
    exact ⟨rfl, by rw [HE.out]; exact h1, (Turn.set (Turn.set (Turn.refl b w) _ _) _ _).trans t1⟩
  · rw [e] at c13
    have HE : Hid (c.tk v = (c.sl v 0).tm v) := by show _ = _; simp [Cp.tk, Cp.t1, Cp.sl, e]
    go_enter Tryd.func56, Tryd.ntmps56
    go_wp2_with (first | (go_at_call 86; refine (takeByMode b v (c.sl v 0) _ HL.out okl hv).mono ?_; rintro e w1 ⟨rfl, h1, t1⟩))
    go_returns
    exact ⟨rfl, by rw [HE.out]; exact h1, (Turn.set (Turn.set (Turn.refl b w) _ _) _ _).trans t1⟩
  · rw [e] at c13
    have HE : Hid (c.tk v = (c.sl v 0).tm v) := by show _ = _; simp [Cp.tk, Cp.t1, Cp.sl, e]
    go_enter Tryd.func56, Tryd.ntmps56
    go_wp2_with (first | (go_at_call 86; refine (takeByMode b v (c.sl v 0) _ HL.out okl hv).mono ?_; rintro e w1 ⟨rfl, h1, t1⟩))
    go_returns
    exact ⟨rfl, by rw [HE.out]; exact h1, (Turn.set (Turn.set (Turn.refl b w) _ _) _ _).trans t1⟩
  · rw [e] at c13
    have HE : Hid (c.tk v = (c.sl v 0).ph (c.r.pc / 256) 25) := by show _ = _; simp [Cp.tk, Cp.t1, Cp.sl, e]
    go_enter Tryd.func56, Tryd.ntmps56
    go_wp2_with (first | (go_at_call 66; rw [HP.out]; refine (push b (c.r.pc / 256) 25 (c.sl v 0) _ HL.out ok.r.s).mono ?_; rintro e w1 ⟨rfl, h1, t1⟩))
    go_returns
    exact ⟨rfl, by rw [HE.out]; exact h1, (Turn.set (Turn.set (Turn.refl b w) _ _) _ _).trans t1⟩
  · rw [e] at c13
    have HE : Hid (c.tk v = (c.sl v 0).tm v) := by show _ = _; simp [Cp.tk, Cp.t1, Cp.sl, e]
    go_enter Tryd.func56, Tryd.ntmps56
    go_wp2_with (first | (go_at_call 86; refine (takeByMode b v (c.sl v 0) _ HL.out okl hv).mono ?_; rintro e w1 ⟨rfl, h1, t1⟩))
    go_returns
    exact ⟨rfl, by rw [HE.out]; exact h1, (Turn.set (Turn.set (Turn.refl b w) _ _) _ _).trans t1⟩

end Go.Proofs.YtelmohajdmcnmaaDoor.Mi
