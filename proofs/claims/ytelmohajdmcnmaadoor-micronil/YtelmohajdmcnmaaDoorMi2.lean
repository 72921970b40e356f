/- More of the processor's calls. -/
import Derived.Test.YtelmohajdmcnmaaDoorMi1
namespace Go.Proofs.YtelmohajdmcnmaaDoor.Mi
open Go.RowKit Alu Ex
set_option linter.unusedVariables false

set_option maxHeartbeats 4000000 in
theorem index (b : Nat) (c : Cp) (w : World) (h : Row w b c.cells) (hm : c.md ≤ 12) : Calls Tryd.prog 60 #[.pointer (some ⟨b, 0, none⟩)] w fun e w' => e = .returned (.int .u8 ((c.ix : Nat) : Int)) ∧ w' = w := by
  have c1 := h.at_ 1 _ rfl
  have c2 := h.at_ 2 _ rfl
  have c12 := h.at_ 12 _ rfl
  clear h
  rcases (show c.md = 0 ∨ c.md = 1 ∨ c.md = 2 ∨ c.md = 3 ∨ c.md = 4 ∨ c.md = 5 ∨ c.md = 6 ∨ c.md = 7 ∨ c.md = 8 ∨ c.md = 9 ∨ c.md = 10 ∨ c.md = 11 ∨ c.md = 12 by omega) with e | e | e | e | e | e | e | e | e | e | e | e | e
  all_goals
    rw [e] at c12
    go_enter Tryd.func60, Tryd.ntmps60
    go_wp2
    go_ret
    exact ⟨ret_int (by simp [Cp.ix, e]), rfl⟩

theorem w_i8 (n : Nat) (h : ¬ n < 128) (hl : n < 256) : IntKind.i8.wrap (n : Int) = (n : Int) - 256 := by
  have : ∀ n : Nat, n < 256 → ¬ n < 128 → IntKind.i8.wrap (n : Int) = (n : Int) - 256 := by decide +kernel
  exact this n hl h
set_option maxHeartbeats 1000000 in
theorem target (b : Nat) (c : Cp) (w : World) (h : Row w b c.cells) (hp : c.r.pc < 65536) (hl : c.lo < 256) : Calls Tryd.prog 58 #[.pointer (some ⟨b, 0, none⟩)] w fun e w' => e = .returned (.int .u16 ((c.tg : Nat) : Int)) ∧ ∃ q, w' = w.drewN q := by
  have c5 := h.at_ 5 _ rfl
  have c15 := h.at_ 15 _ rfl
  clear h
  by_cases hn : c.lo < 128
  · have HT : Hid (c.tg = (c.r.pc + c.lo) % 65536) := by show _ = _; unfold Cp.tg; rw [if_pos hn]
    go_enter Tryd.func58, Tryd.ntmps58
    go_wp2
    go_quiet (fail)
    go_wp2
    go_ret
    exact ⟨ret_int (by rw [HT.out]; (try rw [w_i8 _ hn hl]); simp only [IntKind.wrap_u16]; omega), ⟨_, rfl⟩⟩
  · have HT : Hid (c.tg = (c.r.pc + (c.lo + 65280)) % 65536) := by show _ = _; unfold Cp.tg; rw [if_neg hn]
    go_enter Tryd.func58, Tryd.ntmps58
    go_wp2
    go_quiet (fail)
    go_wp2
    go_ret
    exact ⟨ret_int (by rw [HT.out]; (try rw [w_i8 _ hn hl]); simp only [IntKind.wrap_u16]; omega), ⟨_, rfl⟩⟩

set_option maxRecDepth 100000 in
set_option maxHeartbeats 1000000 in
theorem push (b v s : Nat) (c : Cp) (w : World) (h : Row w b c.cells) (hs : c.r.s < 256) : Calls Tryd.prog 66 #[.pointer (some ⟨b, 0, none⟩), .int .u8 (v : Int), .int .u8 (s : Int)] w fun e w' => e = .returned (.tuple #[]) ∧ Row w' b (c.ph v s).cells ∧ Turn b w w' := by
  have H : Hid (Row w b c.cells) := h
  clear h
  go_enter Tryd.func66, Tryd.ntmps66
  go_wp2_with (first | (go_at_call 51; refine (stack _ _ _ H.out hs).mono ?_; rintro e w' ⟨rfl, rfl⟩) | (go_at_call 64; refine (write _ _ _ _ _ _ H.out).mono ?_; rintro e w1 ⟨rfl, h1, t1⟩))
  go_returns
  exact ⟨rfl, h1, t1⟩

set_option maxRecDepth 100000 in
set_option maxHeartbeats 1000000 in
theorem pull (b s : Nat) (c : Cp) (w : World) (h : Row w b c.cells) (hs : c.r.s < 256) : Calls Tryd.prog 68 #[.pointer (some ⟨b, 0, none⟩), .int .u8 (s : Int)] w fun e w' => e = .returned (.tuple #[]) ∧ Row w' b (c.pl s).cells ∧ Turn b w w' := by
  have H : Hid (Row w b c.cells) := h
  have HS : Hid (((c.r.s : Int) + 1) % 256 = (((c.r.s + 1) % 256 : Nat) : Int)) := by show _ = _; omega
  have c3 := h.at_ 3 _ rfl
  clear h
  go_enter Tryd.func68, Tryd.ntmps68
  go_wp2_with (first | (go_at_call 53; rw [HS.out]; refine (join8 _ 1 _ (by omega) (by decide)).mono ?_; rintro e w' ⟨rfl, rfl⟩) | (go_at_call 48; refine (read _ _ _ _ _ H.out).mono ?_; rintro e w1 ⟨rfl, h1, t1⟩))
  go_returns
  exact ⟨rfl, h1, t1⟩

end Go.Proofs.YtelmohajdmcnmaaDoor.Mi
