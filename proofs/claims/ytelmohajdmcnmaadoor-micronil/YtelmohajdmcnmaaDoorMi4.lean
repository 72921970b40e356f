/- What a code's kind asks. -/
import Derived.Test.YtelmohajdmcnmaaDoorMi3
namespace Go.Proofs.YtelmohajdmcnmaaDoor.Mi
open Go.RowKit Alu Ex
set_option linter.unusedVariables false

set_option maxRecDepth 100000 in
set_option maxHeartbeats 4000000 in
theorem access (b pl : Nat) (c : Cp) (w : World) (h : Row w b c.cells) (ok : c.ok) (hpl : pl < 65536) : Calls Tryd.prog 59 #[.pointer (some ⟨b, 0, none⟩), .int .u16 (pl : Int)] w fun e w' => e = .returned (.tuple #[]) ∧ Row w' b (c.ac pl).cells ∧ Turn b w w' := by
  have H : Hid (Row w b c.cells) := h
  have c13 := h.at_ 13 _ rfl
  have hf := h.fz
  clear h
  have k0 := ok.kd0
  have k1 := ok.kd1
  have k2 := ok.md
  rcases (show c.kd = 0 ∨ c.kd = 1 ∨ c.kd = 2 ∨ c.kd = 3 ∨ c.kd = 4 ∨ c.kd = 5 ∨ c.kd = 6 ∨ c.kd = 7 ∨ c.kd = 8 ∨ c.kd = 9 ∨ c.kd = 10 ∨ c.kd = 11 ∨ c.kd = 12 by omega) with e | e | e | e | e | e | e | e | e | e | e | e | e
  · rw [e] at c13
    have HE : Hid (c.ac pl = c.rd pl 19) := by show _ = _; simp [Cp.ac, e]
    go_enter Tryd.func59, Tryd.ntmps59
    go_wp2_with (first | (go_at_call 48; refine (read b pl 19 c _ H.out).mono ?_; rintro e w1 ⟨rfl, h1, t1⟩))
    go_returns
    exact ⟨rfl, by rw [HE.out]; exact h1, t1⟩
  · rw [e] at c13
    have HE : Hid (c.ac pl = c.rd pl 19) := by show _ = _; simp [Cp.ac, e]
    go_enter Tryd.func59, Tryd.ntmps59
    go_wp2_with (first | (go_at_call 48; refine (read b pl 19 c _ H.out).mono ?_; rintro e w1 ⟨rfl, h1, t1⟩))
    go_returns
    exact ⟨rfl, by rw [HE.out]; exact h1, t1⟩
  · rw [e] at c13
    have HE : Hid (c.ac pl = c.so pl) := by show _ = _; simp [Cp.ac, e]
    go_enter Tryd.func59, Tryd.ntmps59
    go_wp2_with (first | (go_at_call 87; refine (store b pl c _ H.out ok hpl).mono ?_; rintro e w1 ⟨rfl, h1, t1⟩))
    go_returns
    exact ⟨rfl, by rw [HE.out]; exact h1, t1⟩
  · rw [e] at c13
    have HE : Hid (c.ac pl = c.rd pl 20) := by show _ = _; simp [Cp.ac, e]
    go_enter Tryd.func59, Tryd.ntmps59
    go_wp2_with (first | (go_at_call 48; refine (read b pl 20 c _ H.out).mono ?_; rintro e w1 ⟨rfl, h1, t1⟩))
    go_returns
    exact ⟨rfl, by rw [HE.out]; exact h1, t1⟩
  · rw [e] at c13
    have HE : Hid (c.ac pl = c.rd pl 19) := by show _ = _; simp [Cp.ac, e]
    go_enter Tryd.func59, Tryd.ntmps59
    go_wp2_with (first | (go_at_call 48; refine (read b pl 19 c _ H.out).mono ?_; rintro e w1 ⟨rfl, h1, t1⟩))
    go_returns
    exact ⟨rfl, by rw [HE.out]; exact h1, t1⟩
  · rw [e] at c13
    have HE : Hid (c.ac pl = c.rd pl 19) := by show _ = _; simp [Cp.ac, e]
    go_enter Tryd.func59, Tryd.ntmps59
    go_wp2_with (first | (go_at_call 48; refine (read b pl 19 c _ H.out).mono ?_; rintro e w1 ⟨rfl, h1, t1⟩))
    go_returns
    exact ⟨rfl, by rw [HE.out]; exact h1, t1⟩
  · rw [e] at c13
    have HE : Hid (c.ac pl = c.rd pl 19) := by show _ = _; simp [Cp.ac, e]
    go_enter Tryd.func59, Tryd.ntmps59
    go_wp2_with (first | (go_at_call 48; refine (read b pl 19 c _ H.out).mono ?_; rintro e w1 ⟨rfl, h1, t1⟩))
    go_returns
    exact ⟨rfl, by rw [HE.out]; exact h1, t1⟩
  · rw [e] at c13
    have HE : Hid (c.ac pl = c.jp pl) := by show _ = _; simp [Cp.ac, e]
    go_enter Tryd.func59, Tryd.ntmps59
    go_wp2_with (first | (go_at_call 52; refine (jump b pl c _ H.out).mono ?_; rintro e w1 ⟨rfl, h1, t1⟩))
    go_returns
    exact ⟨rfl, by rw [HE.out]; exact h1, t1⟩
  · rw [e] at c13
    have HE : Hid (c.ac pl = c.rd pl 19) := by show _ = _; simp [Cp.ac, e]
    go_enter Tryd.func59, Tryd.ntmps59
    go_wp2_with (first | (go_at_call 48; refine (read b pl 19 c _ H.out).mono ?_; rintro e w1 ⟨rfl, h1, t1⟩))
    go_returns
    exact ⟨rfl, by rw [HE.out]; exact h1, t1⟩
  · rw [e] at c13
    have HE : Hid (c.ac pl = c.rd pl 19) := by show _ = _; simp [Cp.ac, e]
    go_enter Tryd.func59, Tryd.ntmps59
    go_wp2_with (first | (go_at_call 48; refine (read b pl 19 c _ H.out).mono ?_; rintro e w1 ⟨rfl, h1, t1⟩))
    go_returns
    exact ⟨rfl, by rw [HE.out]; exact h1, t1⟩
  · rw [e] at c13
    have HE : Hid (c.ac pl = c.rd pl 19) := by show _ = _; simp [Cp.ac, e]
    go_enter Tryd.func59, Tryd.ntmps59
    go_wp2_with (first | (go_at_call 48; refine (read b pl 19 c _ H.out).mono ?_; rintro e w1 ⟨rfl, h1, t1⟩))
    go_returns
    exact ⟨rfl, by rw [HE.out]; exact h1, t1⟩
  · rw [e] at c13
    have HE : Hid (c.ac pl = c.rd pl 19) := by show _ = _; simp [Cp.ac, e]
    go_enter Tryd.func59, Tryd.ntmps59
    go_wp2_with (first | (go_at_call 48; refine (read b pl 19 c _ H.out).mono ?_; rintro e w1 ⟨rfl, h1, t1⟩))
    go_returns
    exact ⟨rfl, by rw [HE.out]; exact h1, t1⟩
  · rw [e] at c13
    have HE : Hid (c.ac pl = c.rd pl 19) := by show _ = _; simp [Cp.ac, e]
    go_enter Tryd.func59, Tryd.ntmps59
    go_wp2_with (first | (go_at_call 48; refine (read b pl 19 c _ H.out).mono ?_; rintro e w1 ⟨rfl, h1, t1⟩))
    go_returns
    exact ⟨rfl, by rw [HE.out]; exact h1, t1⟩

set_option maxRecDepth 100000 in
set_option maxHeartbeats 4000000 in
theorem endPeeking (b : Nat) (c : Cp) (w : World) (h : Row w b c.cells) (ok : c.ok) : Calls Tryd.prog 65 #[.pointer (some ⟨b, 0, none⟩)] w fun e w' => e = .returned (.tuple #[]) ∧ Row w' b (c.pk).cells ∧ Turn b w w' := by
  have H : Hid (Row w b c.cells) := h
  have c5 := h.at_ 5 _ rfl
  have c13 := h.at_ 13 _ rfl
  have hf := h.fz
  clear h
  have hpc := ok.r.pc
  have HP : Hid ((c.r.pc : Int) / 256 = ((c.r.pc / 256 : Nat) : Int)) := by show _ = _; omega
  have k0 := ok.kd0
  have k1 := ok.kd1
  have k2 := ok.md
  rcases (show c.kd = 0 ∨ c.kd = 1 ∨ c.kd = 2 ∨ c.kd = 3 ∨ c.kd = 4 ∨ c.kd = 5 ∨ c.kd = 6 ∨ c.kd = 7 ∨ c.kd = 8 ∨ c.kd = 9 ∨ c.kd = 10 ∨ c.kd = 11 ∨ c.kd = 12 by omega) with e | e | e | e | e | e | e | e | e | e | e | e | e
  · rw [e] at c13
    have HE : Hid (c.pk = c.pl 31) := by show _ = _; simp [Cp.pk, e]
    go_enter Tryd.func65, Tryd.ntmps65
    go_wp2_with (first | (go_at_call 68; refine (pull b 31 c _ H.out ok.r.s).mono ?_; rintro e w1 ⟨rfl, h1, t1⟩))
    go_returns
    exact ⟨rfl, by rw [HE.out]; exact h1, t1⟩
  · rw [e] at c13
    have HE : Hid (c.pk = c.pl 31) := by show _ = _; simp [Cp.pk, e]
    go_enter Tryd.func65, Tryd.ntmps65
    go_wp2_with (first | (go_at_call 68; refine (pull b 31 c _ H.out ok.r.s).mono ?_; rintro e w1 ⟨rfl, h1, t1⟩))
    go_returns
    exact ⟨rfl, by rw [HE.out]; exact h1, t1⟩
  · rw [e] at c13
    have HE : Hid (c.pk = c.pl 31) := by show _ = _; simp [Cp.pk, e]
    go_enter Tryd.func65, Tryd.ntmps65
    go_wp2_with (first | (go_at_call 68; refine (pull b 31 c _ H.out ok.r.s).mono ?_; rintro e w1 ⟨rfl, h1, t1⟩))
    go_returns
    exact ⟨rfl, by rw [HE.out]; exact h1, t1⟩
  · rw [e] at c13
    have HE : Hid (c.pk = c.pl 31) := by show _ = _; simp [Cp.pk, e]
    go_enter Tryd.func65, Tryd.ntmps65
    go_wp2_with (first | (go_at_call 68; refine (pull b 31 c _ H.out ok.r.s).mono ?_; rintro e w1 ⟨rfl, h1, t1⟩))
    go_returns
    exact ⟨rfl, by rw [HE.out]; exact h1, t1⟩
  · rw [e] at c13
    have HE : Hid (c.pk = c.pl 31) := by show _ = _; simp [Cp.pk, e]
    go_enter Tryd.func65, Tryd.ntmps65
    go_wp2_with (first | (go_at_call 68; refine (pull b 31 c _ H.out ok.r.s).mono ?_; rintro e w1 ⟨rfl, h1, t1⟩))
    go_returns
    exact ⟨rfl, by rw [HE.out]; exact h1, t1⟩
  · rw [e] at c13
    have HE : Hid (c.pk = c.pl 31) := by show _ = _; simp [Cp.pk, e]
    go_enter Tryd.func65, Tryd.ntmps65
    go_wp2_with (first | (go_at_call 68; refine (pull b 31 c _ H.out ok.r.s).mono ?_; rintro e w1 ⟨rfl, h1, t1⟩))
    go_returns
    exact ⟨rfl, by rw [HE.out]; exact h1, t1⟩
  · rw [e] at c13
    have HE : Hid (c.pk = c.pl 29) := by show _ = _; simp [Cp.pk, e]
    go_enter Tryd.func65, Tryd.ntmps65
    go_wp2_with (first | (go_at_call 68; refine (pull b 29 c _ H.out ok.r.s).mono ?_; rintro e w1 ⟨rfl, h1, t1⟩))
    go_returns
    exact ⟨rfl, by rw [HE.out]; exact h1, t1⟩
  · rw [e] at c13
    have HE : Hid (c.pk = c.pl 31) := by show _ = _; simp [Cp.pk, e]
    go_enter Tryd.func65, Tryd.ntmps65
    go_wp2_with (first | (go_at_call 68; refine (pull b 31 c _ H.out ok.r.s).mono ?_; rintro e w1 ⟨rfl, h1, t1⟩))
    go_returns
    exact ⟨rfl, by rw [HE.out]; exact h1, t1⟩
  · rw [e] at c13
    have HE : Hid (c.pk = c.ph (c.r.pc / 256) 25) := by show _ = _; simp [Cp.pk, e]
    go_enter Tryd.func65, Tryd.ntmps65
    go_wp2_with (first | (go_at_call 66; rw [HP.out]; refine (push b (c.r.pc / 256) 25 c _ H.out ok.r.s).mono ?_; rintro e w1 ⟨rfl, h1, t1⟩))
    go_returns
    exact ⟨rfl, by rw [HE.out]; exact h1, t1⟩
  · rw [e] at c13
    have HE : Hid (c.pk = c.pl 31) := by show _ = _; simp [Cp.pk, e]
    go_enter Tryd.func65, Tryd.ntmps65
    go_wp2_with (first | (go_at_call 68; refine (pull b 31 c _ H.out ok.r.s).mono ?_; rintro e w1 ⟨rfl, h1, t1⟩))
    go_returns
    exact ⟨rfl, by rw [HE.out]; exact h1, t1⟩
  · rw [e] at c13
    have HE : Hid (c.pk = c.pl 30) := by show _ = _; simp [Cp.pk, e]
    go_enter Tryd.func65, Tryd.ntmps65
    go_wp2_with (first | (go_at_call 68; refine (pull b 30 c _ H.out ok.r.s).mono ?_; rintro e w1 ⟨rfl, h1, t1⟩))
    go_returns
    exact ⟨rfl, by rw [HE.out]; exact h1, t1⟩
  · rw [e] at c13
    have HE : Hid (c.pk = c.pl 31) := by show _ = _; simp [Cp.pk, e]
    go_enter Tryd.func65, Tryd.ntmps65
    go_wp2_with (first | (go_at_call 68; refine (pull b 31 c _ H.out ok.r.s).mono ?_; rintro e w1 ⟨rfl, h1, t1⟩))
    go_returns
    exact ⟨rfl, by rw [HE.out]; exact h1, t1⟩
  · rw [e] at c13
    have HE : Hid (c.pk = c.pl 31) := by show _ = _; simp [Cp.pk, e]
    go_enter Tryd.func65, Tryd.ntmps65
    go_wp2_with (first | (go_at_call 68; refine (pull b 31 c _ H.out ok.r.s).mono ?_; rintro e w1 ⟨rfl, h1, t1⟩))
    go_returns
    exact ⟨rfl, by rw [HE.out]; exact h1, t1⟩

set_option maxRecDepth 100000 in
set_option maxHeartbeats 4000000 in
theorem comeBack (b pl : Nat) (c : Cp) (w : World) (h : Row w b c.cells) (ok : c.ok) (hpl : pl < 65536) : Calls Tryd.prog 69 #[.pointer (some ⟨b, 0, none⟩), .int .u16 (pl : Int)] w fun e w' => e = .returned (.tuple #[]) ∧ Row w' b (c.cb pl).cells ∧ Turn b w w' := by
  have H : Hid (Row w b c.cells) := h
  have c5 := h.at_ 5 _ rfl
  have c13 := h.at_ 13 _ rfl
  have hf := h.fz
  clear h
  have k0 := ok.kd0
  have k1 := ok.kd1
  have k2 := ok.md
  rcases (show c.kd = 0 ∨ c.kd = 1 ∨ c.kd = 2 ∨ c.kd = 3 ∨ c.kd = 4 ∨ c.kd = 5 ∨ c.kd = 6 ∨ c.kd = 7 ∨ c.kd = 8 ∨ c.kd = 9 ∨ c.kd = 10 ∨ c.kd = 11 ∨ c.kd = 12 by omega) with e | e | e | e | e | e | e | e | e | e | e | e | e
  · rw [e] at c13
    have HE : Hid (c.cb pl = (c.sr (c.r.go pl)).rd pl 33) := by show _ = _; simp [Cp.cb, e]
    go_enter Tryd.func69, Tryd.ntmps69
    go_wp2_with (first | (go_at_call 48; refine (read b pl 33 (c.sr (c.r.go pl)) _ ((H.out.put 5 _).to rfl)).mono ?_; rintro e w1 ⟨rfl, h1, t1'⟩; have t1 := (Turn.set (Turn.refl b w) _ _).trans t1'; clear t1'))
    go_returns
    exact ⟨rfl, by rw [HE.out]; exact h1, t1⟩
  · rw [e] at c13
    have HE : Hid (c.cb pl = (c.sr (c.r.go pl)).rd pl 33) := by show _ = _; simp [Cp.cb, e]
    go_enter Tryd.func69, Tryd.ntmps69
    go_wp2_with (first | (go_at_call 48; refine (read b pl 33 (c.sr (c.r.go pl)) _ ((H.out.put 5 _).to rfl)).mono ?_; rintro e w1 ⟨rfl, h1, t1'⟩; have t1 := (Turn.set (Turn.refl b w) _ _).trans t1'; clear t1'))
    go_returns
    exact ⟨rfl, by rw [HE.out]; exact h1, t1⟩
  · rw [e] at c13
    have HE : Hid (c.cb pl = (c.sr (c.r.go pl)).rd pl 33) := by show _ = _; simp [Cp.cb, e]
    go_enter Tryd.func69, Tryd.ntmps69
    go_wp2_with (first | (go_at_call 48; refine (read b pl 33 (c.sr (c.r.go pl)) _ ((H.out.put 5 _).to rfl)).mono ?_; rintro e w1 ⟨rfl, h1, t1'⟩; have t1 := (Turn.set (Turn.refl b w) _ _).trans t1'; clear t1'))
    go_returns
    exact ⟨rfl, by rw [HE.out]; exact h1, t1⟩
  · rw [e] at c13
    have HE : Hid (c.cb pl = (c.sr (c.r.go pl)).rd pl 33) := by show _ = _; simp [Cp.cb, e]
    go_enter Tryd.func69, Tryd.ntmps69
    go_wp2_with (first | (go_at_call 48; refine (read b pl 33 (c.sr (c.r.go pl)) _ ((H.out.put 5 _).to rfl)).mono ?_; rintro e w1 ⟨rfl, h1, t1'⟩; have t1 := (Turn.set (Turn.refl b w) _ _).trans t1'; clear t1'))
    go_returns
    exact ⟨rfl, by rw [HE.out]; exact h1, t1⟩
  · rw [e] at c13
    have HE : Hid (c.cb pl = (c.sr (c.r.go pl)).rd pl 33) := by show _ = _; simp [Cp.cb, e]
    go_enter Tryd.func69, Tryd.ntmps69
    go_wp2_with (first | (go_at_call 48; refine (read b pl 33 (c.sr (c.r.go pl)) _ ((H.out.put 5 _).to rfl)).mono ?_; rintro e w1 ⟨rfl, h1, t1'⟩; have t1 := (Turn.set (Turn.refl b w) _ _).trans t1'; clear t1'))
    go_returns
    exact ⟨rfl, by rw [HE.out]; exact h1, t1⟩
  · rw [e] at c13
    have HE : Hid (c.cb pl = (c.sr (c.r.go pl)).rd pl 33) := by show _ = _; simp [Cp.cb, e]
    go_enter Tryd.func69, Tryd.ntmps69
    go_wp2_with (first | (go_at_call 48; refine (read b pl 33 (c.sr (c.r.go pl)) _ ((H.out.put 5 _).to rfl)).mono ?_; rintro e w1 ⟨rfl, h1, t1'⟩; have t1 := (Turn.set (Turn.refl b w) _ _).trans t1'; clear t1'))
    go_returns
    exact ⟨rfl, by rw [HE.out]; exact h1, t1⟩
  · rw [e] at c13
    have HE : Hid (c.cb pl = (c.sr (c.r.go pl)).rd pl 33) := by show _ = _; simp [Cp.cb, e]
    go_enter Tryd.func69, Tryd.ntmps69
    go_wp2_with (first | (go_at_call 48; refine (read b pl 33 (c.sr (c.r.go pl)) _ ((H.out.put 5 _).to rfl)).mono ?_; rintro e w1 ⟨rfl, h1, t1'⟩; have t1 := (Turn.set (Turn.refl b w) _ _).trans t1'; clear t1'))
    go_returns
    exact ⟨rfl, by rw [HE.out]; exact h1, t1⟩
  · rw [e] at c13
    have HE : Hid (c.cb pl = (c.sr (c.r.go pl)).rd pl 33) := by show _ = _; simp [Cp.cb, e]
    go_enter Tryd.func69, Tryd.ntmps69
    go_wp2_with (first | (go_at_call 48; refine (read b pl 33 (c.sr (c.r.go pl)) _ ((H.out.put 5 _).to rfl)).mono ?_; rintro e w1 ⟨rfl, h1, t1'⟩; have t1 := (Turn.set (Turn.refl b w) _ _).trans t1'; clear t1'))
    go_returns
    exact ⟨rfl, by rw [HE.out]; exact h1, t1⟩
  · rw [e] at c13
    have HE : Hid (c.cb pl = (c.sr (c.r.go pl)).rd pl 33) := by show _ = _; simp [Cp.cb, e]
    go_enter Tryd.func69, Tryd.ntmps69
    go_wp2_with (first | (go_at_call 48; refine (read b pl 33 (c.sr (c.r.go pl)) _ ((H.out.put 5 _).to rfl)).mono ?_; rintro e w1 ⟨rfl, h1, t1'⟩; have t1 := (Turn.set (Turn.refl b w) _ _).trans t1'; clear t1'))
    go_returns
    exact ⟨rfl, by rw [HE.out]; exact h1, t1⟩
  · rw [e] at c13
    have HE : Hid (c.cb pl = (c.sr (c.r.go pl)).rd pl 33) := by show _ = _; simp [Cp.cb, e]
    go_enter Tryd.func69, Tryd.ntmps69
    go_wp2_with (first | (go_at_call 48; refine (read b pl 33 (c.sr (c.r.go pl)) _ ((H.out.put 5 _).to rfl)).mono ?_; rintro e w1 ⟨rfl, h1, t1'⟩; have t1 := (Turn.set (Turn.refl b w) _ _).trans t1'; clear t1'))
    go_returns
    exact ⟨rfl, by rw [HE.out]; exact h1, t1⟩
  · rw [e] at c13
    have HE : Hid (c.cb pl = c.jp pl) := by show _ = _; simp [Cp.cb, e]
    go_enter Tryd.func69, Tryd.ntmps69
    go_wp2_with (first | (go_at_call 52; refine (jump b pl c _ H.out).mono ?_; rintro e w1 ⟨rfl, h1, t1⟩))
    go_returns
    exact ⟨rfl, by rw [HE.out]; exact h1, t1⟩
  · rw [e] at c13
    have HE : Hid (c.cb pl = (c.sr (c.r.go pl)).rd pl 33) := by show _ = _; simp [Cp.cb, e]
    go_enter Tryd.func69, Tryd.ntmps69
    go_wp2_with (first | (go_at_call 48; refine (read b pl 33 (c.sr (c.r.go pl)) _ ((H.out.put 5 _).to rfl)).mono ?_; rintro e w1 ⟨rfl, h1, t1'⟩; have t1 := (Turn.set (Turn.refl b w) _ _).trans t1'; clear t1'))
    go_returns
    exact ⟨rfl, by rw [HE.out]; exact h1, t1⟩
  · rw [e] at c13
    have HE : Hid (c.cb pl = (c.sr (c.r.go pl)).rd pl 33) := by show _ = _; simp [Cp.cb, e]
    go_enter Tryd.func69, Tryd.ntmps69
    go_wp2_with (first | (go_at_call 48; refine (read b pl 33 (c.sr (c.r.go pl)) _ ((H.out.put 5 _).to rfl)).mono ?_; rintro e w1 ⟨rfl, h1, t1'⟩; have t1 := (Turn.set (Turn.refl b w) _ _).trans t1'; clear t1'))
    go_returns
    exact ⟨rfl, by rw [HE.out]; exact h1, t1⟩

set_option maxHeartbeats 1000000 in
theorem clF_bits : ∀ p : Nat, p < 256 → bits .or .u8 (bits .andNot .u8 (p : Int) 16) 32 = ((clF p : Nat) : Int) := by decide +kernel
theorem or16 : ∀ p : Nat, p < 256 → bits .or .u8 (p : Int) 16 = ((W p 16 true : Nat) : Int) := by decide +kernel
theorem or4 : ∀ p : Nat, p < 256 → bits .or .u8 (p : Int) 4 = ((W p 4 true : Nat) : Int) := by decide +kernel
theorem clF_lt (p : Nat) (h : p < 256) : clF p < 256 := W_lt _ _ _ (W_lt _ _ _ h (by decide)) (by decide)
theorem cleanFlags (p : Nat) (w : World) (h : p < 256) : Calls Tryd.prog 50 #[.int .u8 (p : Int)] w fun e w' => e = .returned (.int .u8 ((clF p : Nat) : Int)) ∧ w' = w := by
  have HB : Hid (bits .or .u8 (bits .andNot .u8 (p : Int) 16) 32 = ((clF p : Nat) : Int)) := clF_bits p h
  go_enter Tryd.func50, Tryd.ntmps50
  go_wp2
  go_ret
  exact ⟨ret_int HB.out, rfl⟩
set_option maxHeartbeats 1000000 in
theorem pushRegister (b : Nat) (c : Cp) (w : World) (h : Row w b c.cells) (ok : c.ok) : Calls Tryd.prog 84 #[.pointer (some ⟨b, 0, none⟩)] w fun e w' => e = .returned (.tuple #[]) ∧ Row w' b c.pr.cells ∧ Turn b w w' := by
  have H : Hid (Row w b c.cells) := h
  have c0 := h.at_ 0 _ rfl
  have c4 := h.at_ 4 _ rfl
  have c11 := h.at_ 11 _ rfl
  clear h
  have hp := ok.r.p
  have HO : Hid (bits .or .u8 (c.r.p : Int) 16 = ((W c.r.p 16 true : Nat) : Int)) := or16 _ hp
  cases q : (c.nm.toList == [80, 72, 80])
  · have HE : Hid (c.pr = c.ph c.r.a 24) := by show _ = _; simp [Cp.pr, isPHP, q]
    go_enter Tryd.func84, Tryd.ntmps84
    go_wp2_with (go_at_call 66; refine (push b c.r.a 24 c _ H.out ok.r.s).mono ?_; rintro e w1 ⟨rfl, h1, t1⟩)
    go_returns
    exact ⟨rfl, by rw [HE.out]; exact h1, t1⟩
  · have HE : Hid (c.pr = c.ph (W c.r.p 16 true) 24) := by show _ = _; simp [Cp.pr, isPHP, q]
    go_enter Tryd.func84, Tryd.ntmps84
    go_wp2_with (go_at_call 66; rw [HO.out]; refine (push b (W c.r.p 16 true) 24 c _ H.out ok.r.s).mono ?_; rintro e w1 ⟨rfl, h1, t1⟩)
    go_returns
    exact ⟨rfl, by rw [HE.out]; exact h1, t1⟩

end Go.Proofs.YtelmohajdmcnmaaDoor.Mi
