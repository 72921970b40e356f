/- A code begins, a byte is taken. -/
import Derived.Test.YtelmohajdmcnmaaDoorMi5Y
namespace Go.Proofs.YtelmohajdmcnmaaDoor.Mi
open Go.RowKit Alu Ex
set_option linter.unusedVariables false

set_option maxRecDepth 100000 in
set_option maxHeartbeats 4000000 in
theorem takeByMode (b v : Nat) (c : Cp) (w : World) (h : Row w b c.cells) (ok : c.ok) (hv : v < 256) : Calls Tryd.prog 86 #[.pointer (some ⟨b, 0, none⟩), .int .u8 (v : Int)] w fun e w' => e = .returned (.tuple #[]) ∧ Row w' b (c.tm v).cells ∧ Turn b w w' := by
  have H : Hid (Row w b c.cells) := h
  have c0 := h.at_ 0 _ rfl
  have c1 := h.at_ 1 _ rfl
  have c2 := h.at_ 2 _ rfl
  have c3 := h.at_ 3 _ rfl
  have c4 := h.at_ 4 _ rfl
  have c5 := h.at_ 5 _ rfl
  have c11 := h.at_ 11 _ rfl
  have c12 := h.at_ 12 _ rfl
  have hf := h.fz
  clear h
  have RD : Hid (∀ w : World, Calls Tryd.prog 27 #[.string c.nm, .agg #[.int .u8 (c.r.a : Int), .int .u8 (c.r.x : Int), .int .u8 (c.r.y : Int), .int .u8 (c.r.s : Int), .int .u8 (c.r.p : Int), .int .u16 (c.r.pc : Int)], .int .u8 (v : Int)] w fun e w' => e = .returned (.agg #[.int .u8 ((Ex.rd c.nm.toList c.r v).a : Int), .int .u8 ((Ex.rd c.nm.toList c.r v).x : Int), .int .u8 ((Ex.rd c.nm.toList c.r v).y : Int), .int .u8 ((Ex.rd c.nm.toList c.r v).s : Int), .int .u8 ((Ex.rd c.nm.toList c.r v).p : Int), .int .u16 ((Ex.rd c.nm.toList c.r v).pc : Int)]) ∧ Below w.heap.size w w') := fun w => Ex.Read c.nm v c.r hv w ok.r
  have JO : Hid (∀ w, Calls Tryd.prog 53 #[.int .u8 (v : Int), .int .u8 0] w fun e w' => e = .returned (.int .u16 (v : Int)) ∧ w' = w) := fun w => by
    have := join8 v 0 w hv (by decide)
    rwa [show jn v 0 = v by simp [jn]] at this
  have k2 := ok.md
  rcases (show c.md = 0 ∨ c.md = 1 ∨ c.md = 2 ∨ c.md = 3 ∨ c.md = 4 ∨ c.md = 5 ∨ c.md = 6 ∨ c.md = 7 ∨ c.md = 8 ∨ c.md = 9 ∨ c.md = 10 ∨ c.md = 11 ∨ c.md = 12 by omega) with e | e | e | e | e | e | e | e | e | e | e | e | e
  · rw [e] at c12
    have HE : Hid (c.tm v = c.rd c.r.pc 13) := by show _ = _; simp [Cp.tm, e]
    go_enter Tryd.func86, Tryd.ntmps86
    go_wp2_with (first | (go_at_call 53; refine (JO.out _).mono ?_; rintro e w' ⟨rfl, rfl⟩) | (go_at_call 48; refine (read b c.r.pc 13 c _ H.out).mono ?_; rintro e w1 ⟨rfl, h1, t1⟩))
    go_returns
    exact ⟨rfl, by rw [HE.out]; exact h1, t1⟩
  · rw [e] at c12
    have HE : Hid (c.tm v = c.rd c.r.pc 13) := by show _ = _; simp [Cp.tm, e]
    go_enter Tryd.func86, Tryd.ntmps86
    go_wp2_with (first | (go_at_call 53; refine (JO.out _).mono ?_; rintro e w' ⟨rfl, rfl⟩) | (go_at_call 48; refine (read b c.r.pc 13 c _ H.out).mono ?_; rintro e w1 ⟨rfl, h1, t1⟩))
    go_returns
    exact ⟨rfl, by rw [HE.out]; exact h1, t1⟩
  · rw [e] at c12
    have HE : Hid (c.tm v = c.fi (Ex.rd c.nm.toList c.r v)) := by show _ = _; simp [Cp.tm, e]
    generalize Ex.rd c.nm.toList c.r v = q at RD HE
    go_enter Tryd.func86, Tryd.ntmps86
    go_wp2_with (first | (go_at_call 53; refine (JO.out _).mono ?_; rintro e w' ⟨rfl, rfl⟩))
    go_region_with (first
      | (go_at_call 27; refine (RD.out _).mono ?_; rintro e w1 ⟨rfl, hB1⟩; have HR1 : Hid (Row w1 b c.cells) := H.out.drew.below c.pos hB1; have hT1 : Hid (Turn b _ w1) := (Turn.draws (Turn.refl b _) 1).trans (Turn.of_below hB1))
      | (go_at_call 63; refine (finish b c q _ HR1.out).mono ?_; rintro e w2 ⟨rfl, h2, t2⟩))
    all_goals go_wp2
    all_goals go_returns
    all_goals exact ⟨rfl, by rw [HE.out]; exact h2, hT1.out.trans t2⟩
  · rw [e] at c12
    have HE : Hid (c.tm v = c.ac v) := by show _ = _; simp [Cp.tm, e]
    go_enter Tryd.func86, Tryd.ntmps86
    go_wp2_with (first | (go_at_call 53; refine (JO.out _).mono ?_; rintro e w' ⟨rfl, rfl⟩) | (go_at_call 59; refine (access b v c _ H.out ok (by omega)).mono ?_; rintro e w1 ⟨rfl, h1, t1⟩))
    go_returns
    exact ⟨rfl, by rw [HE.out]; exact h1, t1⟩
  · rw [e] at c12
    have HE : Hid (c.tm v = c.rd v 14) := by show _ = _; simp [Cp.tm, e]
    go_enter Tryd.func86, Tryd.ntmps86
    go_wp2_with (first | (go_at_call 53; refine (JO.out _).mono ?_; rintro e w' ⟨rfl, rfl⟩) | (go_at_call 48; refine (read b v 14 c _ H.out).mono ?_; rintro e w1 ⟨rfl, h1, t1⟩))
    go_returns
    exact ⟨rfl, by rw [HE.out]; exact h1, t1⟩
  · rw [e] at c12
    have HE : Hid (c.tm v = c.rd v 14) := by show _ = _; simp [Cp.tm, e]
    go_enter Tryd.func86, Tryd.ntmps86
    go_wp2_with (first | (go_at_call 53; refine (JO.out _).mono ?_; rintro e w' ⟨rfl, rfl⟩) | (go_at_call 48; refine (read b v 14 c _ H.out).mono ?_; rintro e w1 ⟨rfl, h1, t1⟩))
    go_returns
    exact ⟨rfl, by rw [HE.out]; exact h1, t1⟩
  · rw [e] at c12
    have HE : Hid (c.tm v = c.rd c.r.pc 13) := by show _ = _; simp [Cp.tm, e]
    go_enter Tryd.func86, Tryd.ntmps86
    go_wp2_with (first | (go_at_call 53; refine (JO.out _).mono ?_; rintro e w' ⟨rfl, rfl⟩) | (go_at_call 48; refine (read b c.r.pc 13 c _ H.out).mono ?_; rintro e w1 ⟨rfl, h1, t1⟩))
    go_returns
    exact ⟨rfl, by rw [HE.out]; exact h1, t1⟩
  · rw [e] at c12
    have HE : Hid (c.tm v = c.rd c.r.pc 13) := by show _ = _; simp [Cp.tm, e]
    go_enter Tryd.func86, Tryd.ntmps86
    go_wp2_with (first | (go_at_call 53; refine (JO.out _).mono ?_; rintro e w' ⟨rfl, rfl⟩) | (go_at_call 48; refine (read b c.r.pc 13 c _ H.out).mono ?_; rintro e w1 ⟨rfl, h1, t1⟩))
    go_returns
    exact ⟨rfl, by rw [HE.out]; exact h1, t1⟩
  · rw [e] at c12
    have HE : Hid (c.tm v = c.rd c.r.pc 13) := by show _ = _; simp [Cp.tm, e]
    go_enter Tryd.func86, Tryd.ntmps86
    go_wp2_with (first | (go_at_call 53; refine (JO.out _).mono ?_; rintro e w' ⟨rfl, rfl⟩) | (go_at_call 48; refine (read b c.r.pc 13 c _ H.out).mono ?_; rintro e w1 ⟨rfl, h1, t1⟩))
    go_returns
    exact ⟨rfl, by rw [HE.out]; exact h1, t1⟩
  · rw [e] at c12
    have HE : Hid (c.tm v = c.rd v 15) := by show _ = _; simp [Cp.tm, e]
    go_enter Tryd.func86, Tryd.ntmps86
    go_wp2_with (first | (go_at_call 53; refine (JO.out _).mono ?_; rintro e w' ⟨rfl, rfl⟩) | (go_at_call 48; refine (read b v 15 c _ H.out).mono ?_; rintro e w1 ⟨rfl, h1, t1⟩))
    go_returns
    exact ⟨rfl, by rw [HE.out]; exact h1, t1⟩
  · rw [e] at c12
    have HE : Hid (c.tm v = c.rd v 16) := by show _ = _; simp [Cp.tm, e]
    go_enter Tryd.func86, Tryd.ntmps86
    go_wp2_with (first | (go_at_call 53; refine (JO.out _).mono ?_; rintro e w' ⟨rfl, rfl⟩) | (go_at_call 48; refine (read b v 16 c _ H.out).mono ?_; rintro e w1 ⟨rfl, h1, t1⟩))
    go_returns
    exact ⟨rfl, by rw [HE.out]; exact h1, t1⟩
  · rw [e] at c12
    have HE : Hid (c.tm v = c.rd c.r.pc 13) := by show _ = _; simp [Cp.tm, e]
    go_enter Tryd.func86, Tryd.ntmps86
    go_wp2_with (first | (go_at_call 53; refine (JO.out _).mono ?_; rintro e w' ⟨rfl, rfl⟩) | (go_at_call 48; refine (read b c.r.pc 13 c _ H.out).mono ?_; rintro e w1 ⟨rfl, h1, t1⟩))
    go_returns
    exact ⟨rfl, by rw [HE.out]; exact h1, t1⟩
  · rw [e] at c12
    have HE : Hid (c.tm v = c.rd c.r.pc 13) := by show _ = _; simp [Cp.tm, e]
    go_enter Tryd.func86, Tryd.ntmps86
    go_wp2_with (first | (go_at_call 53; refine (JO.out _).mono ?_; rintro e w' ⟨rfl, rfl⟩) | (go_at_call 48; refine (read b c.r.pc 13 c _ H.out).mono ?_; rintro e w1 ⟨rfl, h1, t1⟩))
    go_returns
    exact ⟨rfl, by rw [HE.out]; exact h1, t1⟩

set_option maxRecDepth 100000 in
set_option maxHeartbeats 4000000 in
theorem take (b v : Nat) (c : Cp) (w : World) (h : Row w b c.cells) (ok : c.ok) (hv : v < 256) : Calls Tryd.prog 56 #[.pointer (some ⟨b, 0, none⟩), .int .u8 (v : Int)] w fun e w' => e = .returned (.tuple #[]) ∧ Row w' b (c.tk v).cells ∧ Turn b w w' := by
  have H : Hid (Row w b c.cells) := h
  have c4 := h.at_ 4 _ rfl
  have c5 := h.at_ 5 _ rfl
  have c11 := h.at_ 11 _ rfl
  have c13 := h.at_ 13 _ rfl
  have c15 := h.at_ 15 _ rfl
  have c16 := h.at_ 16 _ rfl
  have hf := h.fz
  have HL : Hid (Row ((w.setCell ⟨b, 15, none⟩ (.int .u8 (v : Int))).setCell ⟨b, 16, none⟩ (.int .u8 0)) b (c.sl v 0).cells) := ((h.put 15 _).put 16 _).to rfl
  clear h
  have okl : (c.sl v 0).ok := ⟨ok.r, ok.st, ok.ad, ok.da, ok.op, ok.md, ok.kd0, ok.kd1, hv, (by decide : 0 < 256), ok.rb⟩
  have hpc := ok.r.pc
  have hp := ok.r.p
  have HP : Hid ((c.r.pc : Int) / 256 = ((c.r.pc / 256 : Nat) : Int)) := by show _ = _; omega
  have GO : Hid (∀ w, Calls Tryd.prog 85 #[.string c.nm, .int .u8 (c.r.p : Int)] w fun e w' => e = .returned (.bool (gs c.nm.toList c.r.p)) ∧ w' = w) := fun w => Ex.Goes c.nm c.r.p w hp
  have k0 := ok.kd0
  have k1 := ok.kd1
  rcases (show c.kd = 0 ∨ c.kd = 1 ∨ c.kd = 2 ∨ c.kd = 3 ∨ c.kd = 4 ∨ c.kd = 5 ∨ c.kd = 6 ∨ c.kd = 7 ∨ c.kd = 8 ∨ c.kd = 9 ∨ c.kd = 10 ∨ c.kd = 11 ∨ c.kd = 12 by omega) with e | e | e | e | e | e | e | e | e | e | e | e | e
  · rw [e] at c13
    have HE : Hid (c.tk v = (c.sl v 0).tm v) := by show _ = _; simp [Cp.tk, Cp.t1, Cp.sl, e]
    go_enter Tryd.func56, Tryd.ntmps56
    go_wp2_with (first | (go_at_call 86; refine (takeByMode b v (c.sl v 0) _ HL.out okl hv).mono ?_; rintro e w1 ⟨rfl, h1, t1⟩))
    go_returns
    exact ⟨rfl, by rw [HE.out]; exact h1, (Turn.set (Turn.set (Turn.refl b w) _ _) _ _).trans t1⟩
  · rw [e] at c13
    have HE : Hid (c.tk v = (c.sl v 0).tm v) := by show _ = _; simp [Cp.tk, Cp.t1, Cp.sl, e]
    go_enter Tryd.func56, Tryd.ntmps56
    go_wp2_with (first | (go_at_call 86; refine (takeByMode b v (c.sl v 0) _ HL.out okl hv).mono ?_; rintro e w1 ⟨rfl, h1, t1⟩))
    go_returns
    exact ⟨rfl, by rw [HE.out]; exact h1, (Turn.set (Turn.set (Turn.refl b w) _ _) _ _).trans t1⟩
  · rw [e] at c13
    have HE : Hid (c.tk v = (c.sl v 0).tm v) := by show _ = _; simp [Cp.tk, Cp.t1, Cp.sl, e]
    go_enter Tryd.func56, Tryd.ntmps56
    go_wp2_with (first | (go_at_call 86; refine (takeByMode b v (c.sl v 0) _ HL.out okl hv).mono ?_; rintro e w1 ⟨rfl, h1, t1⟩))
    go_returns
    exact ⟨rfl, by rw [HE.out]; exact h1, (Turn.set (Turn.set (Turn.refl b w) _ _) _ _).trans t1⟩
  · rw [e] at c13
    have HE : Hid (c.tk v = (c.sl v 0).tm v) := by show _ = _; simp [Cp.tk, Cp.t1, Cp.sl, e]
    go_enter Tryd.func56, Tryd.ntmps56
    go_wp2_with (first | (go_at_call 86; refine (takeByMode b v (c.sl v 0) _ HL.out okl hv).mono ?_; rintro e w1 ⟨rfl, h1, t1⟩))
    go_returns
    exact ⟨rfl, by rw [HE.out]; exact h1, (Turn.set (Turn.set (Turn.refl b w) _ _) _ _).trans t1⟩
  · rw [e] at c13
    cases hg : gs c.nm.toList c.r.p
    · have HE : Hid (c.tk v = (c.sl v 0).ft) := by show _ = _; simp [Cp.tk, Cp.t1, Cp.sl, e, hg]
      rw [hg] at GO
      go_enter Tryd.func56, Tryd.ntmps56
      go_wp2
      go_quiet ((go_at_call 85; exact Calls.quiet_of_same (GO.out _)))
      go_wp2_with (first | (go_at_call 36; refine (fetch b (c.sl v 0) _ (HL.out.draws _)).mono ?_; rintro e w1 ⟨rfl, h1, t1⟩))
      go_returns
      exact ⟨rfl, by rw [HE.out]; exact h1, (Turn.draws (Turn.set (Turn.set (Turn.refl b w) _ _) _ _) _).trans t1⟩
    · have HE : Hid (c.tk v = (c.sl v 0).rd c.r.pc 10) := by show _ = _; simp [Cp.tk, Cp.t1, Cp.sl, e, hg]
      rw [hg] at GO
      go_enter Tryd.func56, Tryd.ntmps56
      go_wp2
      go_quiet ((go_at_call 85; exact Calls.quiet_of_same (GO.out _)))
      go_wp2_with (first | (go_at_call 48; refine (read b c.r.pc 10 (c.sl v 0) _ (HL.out.draws _)).mono ?_; rintro e w1 ⟨rfl, h1, t1⟩))
      go_returns
      exact ⟨rfl, by rw [HE.out]; exact h1, (Turn.draws (Turn.set (Turn.set (Turn.refl b w) _ _) _ _) _).trans t1⟩
  · rw [e] at c13
    have HE : Hid (c.tk v = (c.sl v 0).tm v) := by show _ = _; simp [Cp.tk, Cp.t1, Cp.sl, e]
    go_enter Tryd.func56, Tryd.ntmps56
    go_wp2_with (first | (go_at_call 86; refine (takeByMode b v (c.sl v 0) _ HL.out okl hv).mono ?_; rintro e w1 ⟨rfl, h1, t1⟩))
    go_returns
    exact ⟨rfl, by rw [HE.out]; exact h1, (Turn.set (Turn.set (Turn.refl b w) _ _) _ _).trans t1⟩
  · rw [e] at c13
    have HE : Hid (c.tk v = (c.sl v 0).tm v) := by show _ = _; simp [Cp.tk, Cp.t1, Cp.sl, e]
    go_enter Tryd.func56, Tryd.ntmps56
    go_wp2_with (first | (go_at_call 86; refine (takeByMode b v (c.sl v 0) _ HL.out okl hv).mono ?_; rintro e w1 ⟨rfl, h1, t1⟩))
    go_returns
    exact ⟨rfl, by rw [HE.out]; exact h1, (Turn.set (Turn.set (Turn.refl b w) _ _) _ _).trans t1⟩
  · rw [e] at c13
    have HE : Hid (c.tk v = (c.sl v 0).tm v) := by show _ = _; simp [Cp.tk, Cp.t1, Cp.sl, e]
    go_enter Tryd.func56, Tryd.ntmps56
    go_wp2_with (first | (go_at_call 86; refine (takeByMode b v (c.sl v 0) _ HL.out okl hv).mono ?_; rintro e w1 ⟨rfl, h1, t1⟩))
    go_returns
    exact ⟨rfl, by rw [HE.out]; exact h1, (Turn.set (Turn.set (Turn.refl b w) _ _) _ _).trans t1⟩
  · rw [e] at c13
    have HE : Hid (c.tk v = (c.sl v 0).rd (jn c.r.s 1) 23) := by show _ = _; simp [Cp.tk, Cp.t1, Cp.sl, e]
    go_enter Tryd.func56, Tryd.ntmps56
    go_wp2_with (first | (go_at_call 51; refine (stack b (c.sl v 0) _ HL.out ok.r.s).mono ?_; rintro e w' ⟨rfl, rfl⟩) | (go_at_call 48; refine (read b (jn c.r.s 1) 23 (c.sl v 0) _ HL.out).mono ?_; rintro e w1 ⟨rfl, h1, t1⟩))
    go_returns
    exact ⟨rfl, by rw [HE.out]; exact h1, (Turn.set (Turn.set (Turn.refl b w) _ _) _ _).trans t1⟩
  · rw [e] at c13
    have HE : Hid (c.tk v = (c.sl v 0).tm v) := by show _ = _; simp [Cp.tk, Cp.t1, Cp.sl, e]
    go_enter Tryd.func56, Tryd.ntmps56
    go_wp2_with (first | (go_at_call 86; refine (takeByMode b v (c.sl v 0) _ HL.out okl hv).mono ?_; rintro e w1 ⟨rfl, h1, t1⟩))
    go_returns
    exact ⟨rfl, by rw [HE.out]; exact h1, (Turn.set (Turn.set (Turn.refl b w) _ _) _ _).trans t1⟩
  · rw [e] at c13
    have HE : Hid (c.tk v = (c.sl v 0).tm v) := by show _ = _; simp [Cp.tk, Cp.t1, Cp.sl, e]
    go_enter Tryd.func56, Tryd.ntmps56
    go_wp2_with (first | (go_at_call 86; refine (takeByMode b v (c.sl v 0) _ HL.out okl hv).mono ?_; rintro e w1 ⟨rfl, h1, t1⟩))
    go_returns
    exact ⟨rfl, by rw [HE.out]; exact h1, (Turn.set (Turn.set (Turn.refl b w) _ _) _ _).trans t1⟩
  · rw [e] at c13
    have HE : Hid (c.tk v = (c.sl v 0).ph (c.r.pc / 256) 25) := by show _ = _; simp [Cp.tk, Cp.t1, Cp.sl, e]
    go_enter Tryd.func56, Tryd.ntmps56
    go_wp2_with (first | (go_at_call 66; rw [HP.out]; refine (push b (c.r.pc / 256) 25 (c.sl v 0) _ HL.out ok.r.s).mono ?_; rintro e w1 ⟨rfl, h1, t1⟩))
    go_returns
    exact ⟨rfl, by rw [HE.out]; exact h1, (Turn.set (Turn.set (Turn.refl b w) _ _) _ _).trans t1⟩
  · rw [e] at c13
    have HE : Hid (c.tk v = (c.sl v 0).tm v) := by show _ = _; simp [Cp.tk, Cp.t1, Cp.sl, e]
    go_enter Tryd.func56, Tryd.ntmps56
    go_wp2_with (first | (go_at_call 86; refine (takeByMode b v (c.sl v 0) _ HL.out okl hv).mono ?_; rintro e w1 ⟨rfl, h1, t1⟩))
    go_returns
    exact ⟨rfl, by rw [HE.out]; exact h1, (Turn.set (Turn.set (Turn.refl b w) _ _) _ _).trans t1⟩

end Go.Proofs.YtelmohajdmcnmaaDoor.Mi

/- A code begins, or ends without a byte; a byte that was pulled. -/
namespace Go.Proofs.YtelmohajdmcnmaaDoor.Mi
open Go.RowKit Alu Ex
set_option linter.unusedVariables false

theorem lda_eq : (⟨#[76, 68, 65]⟩ : ByteArray).toList = lda := by rw [ByteArray.toList_eq]; rfl

set_option maxRecDepth 100000 in
set_option maxHeartbeats 4000000 in
theorem pullRegister (b v : Nat) (c : Cp) (w : World) (h : Row w b c.cells) (ok : c.ok) (hv : v < 256) : Calls Tryd.prog 67 #[.pointer (some ⟨b, 0, none⟩), .int .u8 (v : Int)] w fun e w' => e = .returned (.tuple #[]) ∧ Row w' b (c.ur v).cells ∧ Turn b w w' := by
  have H : Hid (Row w b c.cells) := h
  have c0 := h.at_ 0 _ rfl
  have c1 := h.at_ 1 _ rfl
  have c2 := h.at_ 2 _ rfl
  have c3 := h.at_ 3 _ rfl
  have c4 := h.at_ 4 _ rfl
  have c5 := h.at_ 5 _ rfl
  have c11 := h.at_ 11 _ rfl
  have hf := h.fz
  have HL : Hid (Row (w.setCell ⟨b, 4, none⟩ (.int .u8 ((clF v : Nat) : Int))) b (c.sr (c.r.fl (clF v))).cells) := (h.put 4 _).to rfl
  clear h
  cases q : (c.nm.toList == [80, 76, 80])
  · have HE : Hid (c.ur v = (c.sr (Ex.rd lda c.r v)).ft) := by show _ = _; simp [Cp.ur, isPLP, q]
    have RD : Hid (∀ w : World, Calls Tryd.prog 27 #[.string ⟨#[76, 68, 65]⟩, .agg #[.int .u8 (c.r.a : Int), .int .u8 (c.r.x : Int), .int .u8 (c.r.y : Int), .int .u8 (c.r.s : Int), .int .u8 (c.r.p : Int), .int .u16 (c.r.pc : Int)], .int .u8 (v : Int)] w fun e w' => e = .returned (.agg #[.int .u8 ((Ex.rd lda c.r v).a : Int), .int .u8 ((Ex.rd lda c.r v).x : Int), .int .u8 ((Ex.rd lda c.r v).y : Int), .int .u8 ((Ex.rd lda c.r v).s : Int), .int .u8 ((Ex.rd lda c.r v).p : Int), .int .u16 ((Ex.rd lda c.r v).pc : Int)]) ∧ Below w.heap.size w w') := fun w => by
      have := Ex.Read ⟨#[76, 68, 65]⟩ v c.r hv w ok.r
      rwa [lda_eq] at this
    generalize Ex.rd lda c.r v = q at RD HE
    go_enter Tryd.func67, Tryd.ntmps67
    go_wp2_with (first
      | (go_at_call 27; refine (RD.out _).mono ?_; rintro e w1 ⟨rfl, hB1⟩; have HR1 : Hid (Row w1 b c.cells) := H.out.below c.pos hB1; have hT1 : Hid (Turn b w w1) := Turn.of_below hB1; have d0 := HR1.out.at_ 0 _ rfl; have d1 := HR1.out.at_ 1 _ rfl; have d2 := HR1.out.at_ 2 _ rfl; have d3 := HR1.out.at_ 3 _ rfl; have d4 := HR1.out.at_ 4 _ rfl; have d5 := HR1.out.at_ 5 _ rfl; have df := HR1.out.fz)
      | (go_at_call 36; refine (fetch b (c.sr q) _ (HR1.out.regs q)).mono ?_; rintro e w2 ⟨rfl, h2, t2⟩))
    go_returns
    exact ⟨rfl, by rw [HE.out]; exact h2, (Turn.set (Turn.set (Turn.set (Turn.set (Turn.set (Turn.set hT1.out _ _) _ _) _ _) _ _) _ _) _ _).trans t2⟩
  · have HE : Hid (c.ur v = (c.sr (c.r.fl (clF v))).ft) := by show _ = _; simp [Cp.ur, isPLP, q]
    go_enter Tryd.func67, Tryd.ntmps67
    go_wp2_with (first
      | (go_at_call 50; refine (cleanFlags v _ hv).mono ?_; rintro e w' ⟨rfl, rfl⟩)
      | (go_at_call 36; refine (fetch b (c.sr (c.r.fl (clF v))) _ HL.out).mono ?_; rintro e w1 ⟨rfl, h1, t1⟩))
    go_returns
    exact ⟨rfl, by rw [HE.out]; exact h1, (Turn.set (Turn.refl b _) _ _).trans t1⟩

set_option maxRecDepth 100000 in
set_option maxHeartbeats 4000000 in
theorem begin (b o : Nat) (c : Cp) (w : World) (h : Row w b c.cells) (ok : c.ok) (ho : o < 256) (ht : Co.Tab w) (hb : 3 < b) : Calls Tryd.prog 54 #[.pointer (some ⟨b, 0, none⟩), .int .u8 (o : Int)] w fun e w' => e = .returned (.tuple #[]) ∧ Row w' b (c.bg o).cells ∧ Turn b w w' := by
  have H : Hid (Row w b c.cells) := h
  have c5 := h.at_ 5 _ rfl
  have c10 := h.at_ 10 _ rfl
  have c11 := h.at_ 11 _ rfl
  have c12 := h.at_ 12 _ rfl
  have c13 := h.at_ 13 _ rfl
  have c14 := h.at_ 14 _ rfl
  have hf := h.fz
  clear h
  have OF : Hid (∀ w, Co.Tab w → Calls Tryd.prog 22 #[.int .u8 (o : Int)] w fun e w' => e = .returned (.agg (Co.codeV o)) ∧ Below w.heap.size w w') := fun w ht => Co.Of o w ho ht
  have LE : Hid (∀ w, Co.Tab w → Calls Tryd.prog 82 #[.int .u8 (o : Int)] w fun e w' => e = .returned (.int .i64 (Co.lenF (Co.modeN o))) ∧ Below w.heap.size w w') := fun w ht => Co.Length o w ho ht
  unfold Co.codeV at OF
  have HS : Hid (c.bg o = Cp.b1 { c with op := o, nm := Co.nameB o, md := Co.modeN o, kd := Co.kindN o, kn := Co.knownB o }) := (rfl : _ = _)
  generalize Co.nameB o = nm at OF HS
  generalize Co.modeN o = md at OF LE HS
  generalize Co.kindN o = kd at OF HS
  generalize Co.knownB o = kn at OF HS
  have HT : Hid (Co.Tab w) := ht
  have HL : Hid (∀ W, Row W b c.cells → Row (((((W.setCell ⟨b, 10, none⟩ (.int .u8 (o : Int))).setCell ⟨b, 11, none⟩ (.string nm)).setCell ⟨b, 12, none⟩ (.int .u8 (md : Int))).setCell ⟨b, 13, none⟩ (.int .u8 kd)).setCell ⟨b, 14, none⟩ (.bool kn)) b ({ c with op := o, nm := nm, md := md, kd := kd, kn := kn } : Cp).cells) := fun W h => (((((h.put 10 _).put 11 _).put 12 _).put 13 _).put 14 _).to rfl
  have HY : Hid (∀ W, Co.Tab W → Co.Tab (((((W.setCell ⟨b, 10, none⟩ (.int .u8 (o : Int))).setCell ⟨b, 11, none⟩ (.string nm)).setCell ⟨b, 12, none⟩ (.int .u8 (md : Int))).setCell ⟨b, 13, none⟩ (.int .u8 kd)).setCell ⟨b, 14, none⟩ (.bool kn))) := fun W h => h.below (n := 4) (below_set (below_set (below_set (below_set (below_set (Below.refl 4 W) hb) hb) hb) hb) hb) (by decide)
  clear ht
  by_cases h12 : kd = 12
  · have HE : Hid (c.bg o = ({ c with op := o, nm := nm, md := md, kd := kd, kn := kn } : Cp).jm) := by show _ = _; rw [HS.out]; simp [Cp.b1, h12]
    subst h12
    go_enter Tryd.func54, Tryd.ntmps54
    go_wp2_with (first
      | (go_at_call 22; refine (OF.out _ HT.out).mono ?_; rintro e w1 ⟨rfl, hB1⟩; have HR1 : Hid (Row w1 b c.cells) := H.out.below c.pos hB1; have hT1 : Hid (Turn b w w1) := Turn.of_below hB1; have HT1 : Hid (Co.Tab w1) := HT.out.next hB1; have d5 := HR1.out.at_ 5 _ rfl; have d10 := HR1.out.at_ 10 _ rfl; have d11 := HR1.out.at_ 11 _ rfl; have d12 := HR1.out.at_ 12 _ rfl; have d13 := HR1.out.at_ 13 _ rfl; have d14 := HR1.out.at_ 14 _ rfl; have df := HR1.out.fz; clear hB1)
      | (go_at_call 35; refine (jam b ({ c with op := o, nm := nm, md := md, kd := 12, kn := kn } : Cp) _ (HL.out _ HR1.out)).mono ?_; rintro e w2 ⟨rfl, h2, t2⟩))
    go_returns
    exact ⟨rfl, by rw [HE.out]; exact h2, (Turn.set (Turn.set (Turn.set (Turn.set (Turn.set hT1.out _ _) _ _) _ _) _ _) _ _).trans t2⟩
  have h12b : (kd == (12 : Int)) = false := by simpa using h12
  by_cases hl : Co.lenF md = 1
  · by_cases h11 : kd = 11
    · have HE : Hid (c.bg o = ({ c with op := o, nm := nm, md := md, kd := kd, kn := kn } : Cp).rd c.r.pc 9) := by show _ = _; rw [HS.out]; simp [Cp.b1, h11]
      rw [hl] at LE
      subst h11
      go_enter Tryd.func54, Tryd.ntmps54
      go_wp2_with (first
        | (go_at_call 22; refine (OF.out _ HT.out).mono ?_; rintro e w1 ⟨rfl, hB1⟩; have HR1 : Hid (Row w1 b c.cells) := H.out.below c.pos hB1; have hT1 : Hid (Turn b w w1) := Turn.of_below hB1; have HT1 : Hid (Co.Tab w1) := HT.out.next hB1; have d5 := HR1.out.at_ 5 _ rfl; have d10 := HR1.out.at_ 10 _ rfl; have d11 := HR1.out.at_ 11 _ rfl; have d12 := HR1.out.at_ 12 _ rfl; have d13 := HR1.out.at_ 13 _ rfl; have d14 := HR1.out.at_ 14 _ rfl; have df := HR1.out.fz; clear hB1)
        | (go_at_call 82; refine (LE.out _ (HY.out _ HT1.out)).mono ?_; rintro e w3 ⟨rfl, hB3⟩; have HR3 : Hid (Row w3 b ({ c with op := o, nm := nm, md := md, kd := 11, kn := kn } : Cp).cells) := (HL.out _ HR1.out).below (Cp.pos _) hB3; have hT3 : Hid (Turn b w w3) := (Turn.set (Turn.set (Turn.set (Turn.set (Turn.set hT1.out _ _) _ _) _ _) _ _) _ _).trans (Turn.of_below hB3); have e5 := HR3.out.at_ 5 _ rfl; have e13 := HR3.out.at_ 13 _ rfl; have ef := HR3.out.fz; clear hB3)
        | (go_at_call 48; refine (read b c.r.pc 9 ({ c with op := o, nm := nm, md := md, kd := 11, kn := kn } : Cp) _ HR3.out).mono ?_; rintro e w4 ⟨rfl, h4, t4⟩))
      go_returns
      exact ⟨rfl, by rw [HE.out]; exact h4, hT3.out.trans t4⟩
    · have HE : Hid (c.bg o = ({ c with op := o, nm := nm, md := md, kd := kd, kn := kn } : Cp).rd c.r.pc 8) := by show _ = _; rw [HS.out]; simp [Cp.b1, h11, h12, hl]
      have h11b : (kd == (11 : Int)) = false := by simpa using h11
      have h11c : (kd != (11 : Int)) = true := by simpa using h11
      rw [hl] at LE
      go_enter Tryd.func54, Tryd.ntmps54
      go_wp2_with (first
        | (go_at_call 22; refine (OF.out _ HT.out).mono ?_; rintro e w1 ⟨rfl, hB1⟩; have HR1 : Hid (Row w1 b c.cells) := H.out.below c.pos hB1; have hT1 : Hid (Turn b w w1) := Turn.of_below hB1; have HT1 : Hid (Co.Tab w1) := HT.out.next hB1; have d5 := HR1.out.at_ 5 _ rfl; have d10 := HR1.out.at_ 10 _ rfl; have d11 := HR1.out.at_ 11 _ rfl; have d12 := HR1.out.at_ 12 _ rfl; have d13 := HR1.out.at_ 13 _ rfl; have d14 := HR1.out.at_ 14 _ rfl; have df := HR1.out.fz; clear hB1)
        | (go_at_call 82; refine (LE.out _ (HY.out _ HT1.out)).mono ?_; rintro e w3 ⟨rfl, hB3⟩; have HR3 : Hid (Row w3 b ({ c with op := o, nm := nm, md := md, kd := kd, kn := kn } : Cp).cells) := (HL.out _ HR1.out).below (Cp.pos _) hB3; have hT3 : Hid (Turn b w w3) := (Turn.set (Turn.set (Turn.set (Turn.set (Turn.set hT1.out _ _) _ _) _ _) _ _) _ _).trans (Turn.of_below hB3); have e5 := HR3.out.at_ 5 _ rfl; have e13 := HR3.out.at_ 13 _ rfl; have ef := HR3.out.fz; clear hB3)
        | (go_at_call 48; refine (read b c.r.pc 8 ({ c with op := o, nm := nm, md := md, kd := kd, kn := kn } : Cp) _ HR3.out).mono ?_; rintro e w4 ⟨rfl, h4, t4⟩))
      go_returns
      exact ⟨rfl, by rw [HE.out]; exact h4, hT3.out.trans t4⟩
  · have HE : Hid (c.bg o = ({ c with op := o, nm := nm, md := md, kd := kd, kn := kn } : Cp).rd c.r.pc 9) := by show _ = _; rw [HS.out]; simp [Cp.b1, h12, hl]
    generalize Co.lenF md = ln at LE hl
    have hlb : (ln == (1 : Int)) = false := by simpa using hl
    have h11 : True := trivial
    go_enter Tryd.func54, Tryd.ntmps54
    go_wp2_with (first
      | (go_at_call 22; refine (OF.out _ HT.out).mono ?_; rintro e w1 ⟨rfl, hB1⟩; have HR1 : Hid (Row w1 b c.cells) := H.out.below c.pos hB1; have hT1 : Hid (Turn b w w1) := Turn.of_below hB1; have HT1 : Hid (Co.Tab w1) := HT.out.next hB1; have d5 := HR1.out.at_ 5 _ rfl; have d10 := HR1.out.at_ 10 _ rfl; have d11 := HR1.out.at_ 11 _ rfl; have d12 := HR1.out.at_ 12 _ rfl; have d13 := HR1.out.at_ 13 _ rfl; have d14 := HR1.out.at_ 14 _ rfl; have df := HR1.out.fz; clear hB1)
      | (go_at_call 82; refine (LE.out _ (HY.out _ HT1.out)).mono ?_; rintro e w3 ⟨rfl, hB3⟩; have HR3 : Hid (Row w3 b ({ c with op := o, nm := nm, md := md, kd := kd, kn := kn } : Cp).cells) := (HL.out _ HR1.out).below (Cp.pos _) hB3; have hT3 : Hid (Turn b w w3) := (Turn.set (Turn.set (Turn.set (Turn.set (Turn.set hT1.out _ _) _ _) _ _) _ _) _ _).trans (Turn.of_below hB3); have e5 := HR3.out.at_ 5 _ rfl; have e13 := HR3.out.at_ 13 _ rfl; have ef := HR3.out.fz; clear hB3)
      | (go_at_call 48; refine (read b c.r.pc 9 ({ c with op := o, nm := nm, md := md, kd := kd, kn := kn } : Cp) _ HR3.out).mono ?_; rintro e w4 ⟨rfl, h4, t4⟩))
    go_returns
    exact ⟨rfl, by rw [HE.out]; exact h4, hT3.out.trans t4⟩

end Go.Proofs.YtelmohajdmcnmaaDoor.Mi
