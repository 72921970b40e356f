/- The processor's small calls. -/
import Derived.Test.YtelmohajdmcnmaaDoorMiM
import Derived.Deep.RegionWith
namespace Go.Proofs.YtelmohajdmcnmaaDoor.Mi
open Go.RowKit Alu Ex
set_option linter.unusedVariables false

theorem ret_int {k : IntKind} {a b : Int} (h : a = b) : Ending.returned (.int k a) = .returned (.int k b) := by rw [h]

/-- u16(hi) << 8 | u16(lo). -/
theorem join_eq (l h : Nat) (hl : l < 256) (hh : h < 256) : bits .or .u16 ((h : Int) * 256) (l : Int) = ((jn l h : Nat) : Int) := by
  have e : ((h : Int) * 256) = ((h * 256 : Nat) : Int) := by omega
  rw [e, u16_or_nat _ _ (by omega) (by omega)]
  have := Nat.two_pow_add_eq_or_of_lt (i := 8) (b := l) (by omega) h
  have e2 : h * 256 = 2 ^ 8 * h := by omega
  unfold jn
  rw [e2, ← this]

set_option maxHeartbeats 1000000 in
theorem join8 (l h : Nat) (w : World) (hl : l < 256) (hh : h < 256) : Calls Tryd.prog 53 #[.int .u8 (l : Int), .int .u8 (h : Int)] w fun e w' => e = .returned (.int .u16 ((jn l h : Nat) : Int)) ∧ w' = w := by
  have HJ : Hid (bits .or .u16 ((h : Int) * 256) (l : Int) = ((jn l h : Nat) : Int)) := join_eq l h hl hh
  go_enter Tryd.func53, Tryd.ntmps53
  go_wp2
  go_ret
  exact ⟨ret_int HJ.out, rfl⟩
set_option maxHeartbeats 1000000 in
theorem join16 (l h : Nat) (w : World) (hl : l < 256) (hh : h < 256) : Calls Tryd.prog 61 #[.int .u8 (l : Int), .int .u16 (h : Int)] w fun e w' => e = .returned (.int .u16 ((jn l h : Nat) : Int)) ∧ w' = w := by
  have HJ : Hid (bits .or .u16 ((h : Int) * 256) (l : Int) = ((jn l h : Nat) : Int)) := join_eq l h hl hh
  go_enter Tryd.func61, Tryd.ntmps61
  go_wp2
  go_ret
  exact ⟨ret_int HJ.out, rfl⟩

set_option maxRecDepth 100000 in
set_option maxHeartbeats 1000000 in
theorem read (b a s : Nat) (c : Cp) (w : World) (h : Row w b c.cells) : Calls Tryd.prog 48 #[.pointer (some ⟨b, 0, none⟩), .int .u16 (a : Int), .int .u8 (s : Int)] w fun e w' => e = .returned (.tuple #[]) ∧ Row w' b (c.rd a s).cells ∧ Turn b w w' := by
  have H : Hid (Row w b c.cells) := h
  have c6 := h.at_ 6 _ rfl
  have c7 := h.at_ 7 _ rfl
  have c8 := h.at_ 8 _ rfl
  have c9 := h.at_ 9 _ rfl
  have hf := h.fz
  clear h
  go_enter Tryd.func48, Tryd.ntmps48
  go_wp2
  go_returns
  exact ⟨rfl, ((((H.out.put 7 _).put 8 _).put 9 _).put 6 _).to rfl, (Turn.set (Turn.set (Turn.set (Turn.set (Turn.refl _ _) _ _) _ _) _ _) _ _)⟩

set_option maxRecDepth 100000 in
set_option maxHeartbeats 1000000 in
theorem write (b a v s : Nat) (c : Cp) (w : World) (h : Row w b c.cells) : Calls Tryd.prog 64 #[.pointer (some ⟨b, 0, none⟩), .int .u16 (a : Int), .int .u8 (v : Int), .int .u8 (s : Int)] w fun e w' => e = .returned (.tuple #[]) ∧ Row w' b (c.wt a v s).cells ∧ Turn b w w' := by
  have H : Hid (Row w b c.cells) := h
  have c6 := h.at_ 6 _ rfl
  have c7 := h.at_ 7 _ rfl
  have c8 := h.at_ 8 _ rfl
  have c9 := h.at_ 9 _ rfl
  have hf := h.fz
  clear h
  go_enter Tryd.func64, Tryd.ntmps64
  go_wp2
  go_returns
  exact ⟨rfl, ((((H.out.put 7 _).put 8 _).put 9 _).put 6 _).to rfl, (Turn.set (Turn.set (Turn.set (Turn.set (Turn.refl _ _) _ _) _ _) _ _) _ _)⟩

set_option maxRecDepth 100000 in
set_option maxHeartbeats 1000000 in
theorem fetch (b : Nat) (c : Cp) (w : World) (h : Row w b c.cells) : Calls Tryd.prog 36 #[.pointer (some ⟨b, 0, none⟩)] w fun e w' => e = .returned (.tuple #[]) ∧ Row w' b (c.ft).cells ∧ Turn b w w' := by
  have H : Hid (Row w b c.cells) := h
  have c5 := h.at_ 5 _ rfl
  have hf := h.fz
  clear h
  go_enter Tryd.func36, Tryd.ntmps36
  go_wp2_with (first | (go_at_call 48; refine (read _ _ 7 _ _ H.out).mono ?_; rintro e w1 ⟨rfl, h1, t1⟩))
  go_returns
  exact ⟨rfl, h1, t1⟩

set_option maxRecDepth 100000 in
set_option maxHeartbeats 1000000 in
theorem jam (b : Nat) (c : Cp) (w : World) (h : Row w b c.cells) : Calls Tryd.prog 35 #[.pointer (some ⟨b, 0, none⟩)] w fun e w' => e = .returned (.tuple #[]) ∧ Row w' b (c.jm).cells ∧ Turn b w w' := by
  have H : Hid (Row w b c.cells) := h
  clear h
  go_enter Tryd.func35, Tryd.ntmps35
  go_wp2_with (first | (go_at_call 48; refine (read _ 65535 12 _ _ H.out).mono ?_; rintro e w1 ⟨rfl, h1, t1⟩))
  go_returns
  exact ⟨rfl, h1, t1⟩

set_option maxHeartbeats 1000000 in
theorem stack (b : Nat) (c : Cp) (w : World) (h : Row w b c.cells) (hs : c.r.s < 256) : Calls Tryd.prog 51 #[.pointer (some ⟨b, 0, none⟩)] w fun e w' => e = .returned (.int .u16 ((jn c.r.s 1 : Nat) : Int)) ∧ w' = w := by
  have c3 := h.at_ 3 _ rfl
  clear h
  go_enter Tryd.func51, Tryd.ntmps51
  go_wp2_with (go_at_call 53; refine (join8 _ 1 _ hs (by decide)).mono ?_; rintro e w' ⟨rfl, rfl⟩)
  go_ret
  exact ⟨rfl, rfl⟩

set_option maxRecDepth 100000 in
set_option maxHeartbeats 1000000 in
theorem jump (b a : Nat) (c : Cp) (w : World) (h : Row w b c.cells) : Calls Tryd.prog 52 #[.pointer (some ⟨b, 0, none⟩), .int .u16 (a : Int)] w fun e w' => e = .returned (.tuple #[]) ∧ Row w' b (c.jp a).cells ∧ Turn b w w' := by
  have H : Hid (Row w b c.cells) := h
  have HP : Hid (Row (w.setCell ⟨b, 5, none⟩ (.int .u16 (a : Int))) b (c.sr (c.r.go a)).cells) := (h.put 5 _).to rfl
  have c5 := h.at_ 5 _ rfl
  have hf := h.fz
  clear h
  go_enter Tryd.func52, Tryd.ntmps52
  go_wp2_with (first | (go_at_call 36; refine (fetch _ (c.sr (c.r.go a)) _ HP.out).mono ?_; rintro e w1 ⟨rfl, h1, t1⟩))
  go_returns
  exact ⟨rfl, h1, (Turn.set (Turn.refl _ _) _ _).trans t1⟩

/-- Registers laid into the processor. -/
theorem Row.regs {w : World} {b : Nat} {c : Cp} (h : Row w b c.cells) (r : Rg) : Row (((((((w).setCell ⟨b, 0, none⟩ (.int .u8 (r.a : Int))).setCell ⟨b, 1, none⟩ (.int .u8 (r.x : Int))).setCell ⟨b, 2, none⟩ (.int .u8 (r.y : Int))).setCell ⟨b, 3, none⟩ (.int .u8 (r.s : Int))).setCell ⟨b, 4, none⟩ (.int .u8 (r.p : Int))).setCell ⟨b, 5, none⟩ (.int .u16 (r.pc : Int))) b (c.sr r).cells := ((((((h.put 0 _).put 1 _).put 2 _).put 3 _).put 4 _).put 5 _).to rfl

/-- The registers as a value. -/
def rG (r : Rg) : Array Go.Value := #[.int .u8 (r.a : Int), .int .u8 (r.x : Int), .int .u8 (r.y : Int), .int .u8 (r.s : Int), .int .u8 (r.p : Int), .int .u16 (r.pc : Int)]
theorem turn_alloc {b : Nat} {w w' : World} {X : Obj} (h : Turn b (w.alloc X) w') : Turn b w w' := (Turn.of_below ((Below.refl _ w).alloc (Nat.le_refl _) X)).trans h
set_option maxRecDepth 100000 in
set_option maxHeartbeats 1000000 in
theorem finish (b : Nat) (c : Cp) (r : Rg) (w : World) (h : Row w b c.cells) : Calls Tryd.prog 63 #[.pointer (some ⟨b, 0, none⟩), .agg (rG r)] w fun e w' => e = .returned (.tuple #[]) ∧ Row w' b (c.fi r).cells ∧ Turn b w w' := by
  have H : Hid (Row w b c.cells) := h
  have HX : Hid (∀ X : Obj, Row (w.alloc X) b c.cells) := fun X => h.alloc (by simp [Cp.cells]) X
  have a0 : ∀ X : Obj, (w.alloc X).cell? ⟨b, 0, none⟩ = _ := fun X => (HX.out X).at_ 0 _ rfl
  have a1 : ∀ X : Obj, (w.alloc X).cell? ⟨b, 1, none⟩ = _ := fun X => (HX.out X).at_ 1 _ rfl
  have a2 : ∀ X : Obj, (w.alloc X).cell? ⟨b, 2, none⟩ = _ := fun X => (HX.out X).at_ 2 _ rfl
  have a3 : ∀ X : Obj, (w.alloc X).cell? ⟨b, 3, none⟩ = _ := fun X => (HX.out X).at_ 3 _ rfl
  have a4 : ∀ X : Obj, (w.alloc X).cell? ⟨b, 4, none⟩ = _ := fun X => (HX.out X).at_ 4 _ rfl
  have a5 : ∀ X : Obj, (w.alloc X).cell? ⟨b, 5, none⟩ = _ := fun X => (HX.out X).at_ 5 _ rfl
  have hf : ∀ (X : Obj) (j : Nat), (w.alloc X).frozen? ⟨b, j, none⟩ = false := fun X j => (HX.out X).fz j
  clear h
  unfold rG
  go_enter Tryd.func63, Tryd.ntmps63
  go_wp2_with (go_at_call 36; fail)
  refine (fetch b (c.sr r) _ ?_).mono ?_
  · exact (HX.out _).regs r
  · rintro e w1 ⟨rfl, h1, t1⟩
    go_wp2
    go_returns
    exact ⟨rfl, h1, turn_alloc ((Turn.set (Turn.set (Turn.set (Turn.set (Turn.set (Turn.set (Turn.refl _ _) _ _) _ _) _ _) _ _) _ _) _ _).trans t1)⟩

end Go.Proofs.YtelmohajdmcnmaaDoor.Mi

/- More of the processor's calls. -/
namespace Go.Proofs.YtelmohajdmcnmaaDoor.Mi
open Go.RowKit Alu Ex
set_option linter.unusedVariables false

set_option maxHeartbeats 4000000 in
theorem index (b : Nat) (c : Cp) (w : World) (h : Row w b c.cells) (hm : c.md ≤ 12) : Calls Tryd.prog 60 #[.pointer (some ⟨b, 0, none⟩)] w fun e w' => e = .returned (.int .u8 ((c.ix : Nat) : Int)) ∧ w' = w := by
  have c1 := h.at_ 1 _ rfl
  have c2 := h.at_ 2 _ rfl
  have c12 := h.at_ 12 _ rfl
  clear h
  rcases (show c.md = 0 ∨ c.md = 1 ∨ c.md = 2 ∨ c.md = 3 ∨ c.md = 4 ∨ c.md = 5 ∨ c.md = 6 ∨ c.md = 7 ∨ c.md = 8 ∨ c.md = 9 ∨ c.md = 10 ∨ c.md = 11 ∨ c.md = 12 by omega) with e | e | e | e | e | e | e | e | e | e | e | e | e
  all_goals
    rw [e] at c12
    go_enter Tryd.func60, Tryd.ntmps60
    go_wp2
    go_ret
    exact ⟨ret_int (by simp [Cp.ix, e]), rfl⟩

theorem w_i8 (n : Nat) (h : ¬ n < 128) (hl : n < 256) : IntKind.i8.wrap (n : Int) = (n : Int) - 256 := by
  have : ∀ n : Nat, n < 256 → ¬ n < 128 → IntKind.i8.wrap (n : Int) = (n : Int) - 256 := by decide +kernel
  exact this n hl h
set_option maxHeartbeats 1000000 in
theorem target (b : Nat) (c : Cp) (w : World) (h : Row w b c.cells) (hp : c.r.pc < 65536) (hl : c.lo < 256) : Calls Tryd.prog 58 #[.pointer (some ⟨b, 0, none⟩)] w fun e w' => e = .returned (.int .u16 ((c.tg : Nat) : Int)) ∧ ∃ q, w' = w.drewN q := by
  have c5 := h.at_ 5 _ rfl
  have c15 := h.at_ 15 _ rfl
  clear h
  by_cases hn : c.lo < 128
  · have HT : Hid (c.tg = (c.r.pc + c.lo) % 65536) := by show _ = _; unfold Cp.tg; rw [if_pos hn]
    go_enter Tryd.func58, Tryd.ntmps58
    go_wp2
    go_quiet (fail)
    go_wp2
    go_ret
    exact ⟨ret_int (by rw [HT.out]; (try rw [w_i8 _ hn hl]); simp only [IntKind.wrap_u16]; omega), ⟨_, rfl⟩⟩
  · have HT : Hid (c.tg = (c.r.pc + (c.lo + 65280)) % 65536) := by show _ = _; unfold Cp.tg; rw [if_neg hn]
    go_enter Tryd.func58, Tryd.ntmps58
    go_wp2
    go_quiet (fail)
    go_wp2
    go_ret
    exact ⟨ret_int (by rw [HT.out]; (try rw [w_i8 _ hn hl]); simp only [IntKind.wrap_u16]; omega), ⟨_, rfl⟩⟩

set_option maxRecDepth 100000 in
set_option maxHeartbeats 1000000 in
theorem push (b v s : Nat) (c : Cp) (w : World) (h : Row w b c.cells) (hs : c.r.s < 256) : Calls Tryd.prog 66 #[.pointer (some ⟨b, 0, none⟩), .int .u8 (v : Int), .int .u8 (s : Int)] w fun e w' => e = .returned (.tuple #[]) ∧ Row w' b (c.ph v s).cells ∧ Turn b w w' := by
  have H : Hid (Row w b c.cells) := h
  clear h
  go_enter Tryd.func66, Tryd.ntmps66
  go_wp2_with (first | (go_at_call 51; refine (stack _ _ _ H.out hs).mono ?_; rintro e w' ⟨rfl, rfl⟩) | (go_at_call 64; refine (write _ _ _ _ _ _ H.out).mono ?_; rintro e w1 ⟨rfl, h1, t1⟩))
  go_returns
  exact ⟨rfl, h1, t1⟩

set_option maxRecDepth 100000 in
set_option maxHeartbeats 1000000 in
theorem pull (b s : Nat) (c : Cp) (w : World) (h : Row w b c.cells) (hs : c.r.s < 256) : Calls Tryd.prog 68 #[.pointer (some ⟨b, 0, none⟩), .int .u8 (s : Int)] w fun e w' => e = .returned (.tuple #[]) ∧ Row w' b (c.pl s).cells ∧ Turn b w w' := by
  have H : Hid (Row w b c.cells) := h
  have HS : Hid (((c.r.s : Int) + 1) % 256 = (((c.r.s + 1) % 256 : Nat) : Int)) := by show _ = _; omega
  have c3 := h.at_ 3 _ rfl
  clear h
  go_enter Tryd.func68, Tryd.ntmps68
  go_wp2_with (first | (go_at_call 53; rw [HS.out]; refine (join8 _ 1 _ (by omega) (by decide)).mono ?_; rintro e w' ⟨rfl, rfl⟩) | (go_at_call 48; refine (read _ _ _ _ _ H.out).mono ?_; rintro e w1 ⟨rfl, h1, t1⟩))
  go_returns
  exact ⟨rfl, h1, t1⟩

end Go.Proofs.YtelmohajdmcnmaaDoor.Mi
