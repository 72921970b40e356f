/- What a law holds of its voice; the calls over that; what the chapter's first example comes to. -/
import Derived.Test.YtdnfclhljahghaaTone4
namespace Go.Proofs.Ytdnfclhljahghaa.To
open Go.RowKit
set_option linter.unusedVariables false

/-- The voice is new since W; of what W had nothing has turned. -/
structure Vb (W : World) (b : Nat) (p : Vo) (w : World) : Prop where
  a : VAt w b p
  old : Below W.heap.size W w
  hb : W.heap.size ≤ b
  k : p.k ≤ 95

section
variable {W w w' : World} {b : Nat} {p : Vo}
theorem Vb.below (h : Vb W b p w) (hb : Below w.heap.size w w') : Vb W b p w' := ⟨h.a.below hb, h.old.trans (hb.mono h.old.size), h.hb, h.k⟩
theorem Vb.turn {q : Vo} (h : Vb W b p w) (hp : VAt w' b q) (ht : Turn b w w') (hk : q.k ≤ 95) : Vb W b q w' := ⟨hp, h.old.trans (ht.below h.hb h.old.size), h.hb, hk⟩
theorem Vb.draws (h : Vb W b p w) (q : Nat) : Vb W b p (w.drewN q) := ⟨h.a.draws q, below_drewN h.old q, h.hb, h.k⟩
theorem Vb.drew (h : Vb W b p w) : Vb W b p w.drew := h.draws 1
theorem Vb.alloc (h : Vb W b p w) (o : Obj) : Vb W b p (w.alloc o) := h.below ((Below.refl _ w).alloc (Nat.le_refl _) o)
end

theorem Vo.tick_k {p : Vo} (h : p.ok) (hk : p.k ≤ 95) : p.tick.k ≤ 95 := by
  unfold Vo.tick
  have := Vo.len_le h.r
  split
  · simp only; omega
  · rw [Vo.beat_k]; simp

theorem NewB (W : World) : Calls Try.prog 12 #[] W fun e w' => ∃ b, e = .returned (.pointer (some ⟨b, 0, none⟩)) ∧ Vb W b Vo.new w' := by
  refine (New W).mono ?_
  rintro e w' ⟨b, rfl, h1, h2, h3⟩
  exact ⟨b, rfl, h2, h3, h1, by decide⟩
theorem ControlB {W w : World} {b : Nat} {p : Vo} (n : Nat) (hn : n < 256) (h : Vb W b p w) : Calls Try.prog 19 #[.pointer (some ⟨b, 0, none⟩), .int .u8 (n : Int)] w fun e w' => e = .returned (.tuple #[]) ∧ Vb W b { p with c := n % 16 } w' := by
  refine (Control b p n w hn h.a).mono ?_
  rintro e w' ⟨rfl, h1, h2⟩
  exact ⟨rfl, h.turn h1 h2 h.k⟩
theorem RateB {W w : World} {b : Nat} {p : Vo} (n : Nat) (hn : n < 256) (h : Vb W b p w) : Calls Try.prog 20 #[.pointer (some ⟨b, 0, none⟩), .int .u8 (n : Int)] w fun e w' => e = .returned (.tuple #[]) ∧ Vb W b { p with r := n % 32 } w' := by
  refine (Rate b p n w hn h.a).mono ?_
  rintro e w' ⟨rfl, h1, h2⟩
  exact ⟨rfl, h.turn h1 h2 h.k⟩
theorem VolumeB {W w : World} {b : Nat} {p : Vo} (n : Nat) (hn : n < 256) (h : Vb W b p w) : Calls Try.prog 21 #[.pointer (some ⟨b, 0, none⟩), .int .u8 (n : Int)] w fun e w' => e = .returned (.tuple #[]) ∧ Vb W b { p with v := n % 16 } w' := by
  refine (Volume b p n w hn h.a).mono ?_
  rintro e w' ⟨rfl, h1, h2⟩
  exact ⟨rfl, h.turn h1 h2 h.k⟩
theorem TickB {W w : World} {b : Nat} {p : Vo} (h : Vb W b p w) : Calls Try.prog 25 #[.pointer (some ⟨b, 0, none⟩)] w fun e w' => e = .returned (.tuple #[]) ∧ Vb W b p.tick w' := by
  refine (Tick b p w h.a h.k).mono ?_
  rintro e w' ⟨rfl, h1, h2⟩
  exact ⟨rfl, h.turn h1 h2 (Vo.tick_k h.a.ok h.k)⟩
theorem LevelB {W w : World} {b : Nat} {p : Vo} (r : Nat) (hr : p.level = r) (h : Vb W b p w) : Calls Try.prog 16 #[.pointer (some ⟨b, 0, none⟩)] w fun e w' => e = .returned (.int .u8 (r : Int)) ∧ w' = w := by
  refine (Level b p w h.a).mono ?_
  rintro e w' ⟨rfl, rfl⟩
  exact ⟨by rw [hr], rfl⟩

set_option maxRecDepth 100000 in
set_option maxHeartbeats 2000000 in
theorem awake19 (w : World) : Calls Try.prog 18 #[] w fun e w' => e = .returned (.bool true) ∧ Below w.heap.size w w' := by
  go_enter Try.func18, Try.ntmps18
  go_wp2_with (go_at_call 12; fail)
  refine (NewB w).mono ?_
  rintro e w1 ⟨b, rfl, h⟩
  have H1 : Hid (Vb w b Vo.new w1) := h
  clear h
  go_wp2_with (go_at_call 19; fail)
  refine (ControlB 4 (by decide) H1.out).mono ?_
  rintro e w2 ⟨rfl, h⟩
  have H2 : Hid (Vb w b { Vo.new with c := 4 } w2) := h
  clear h H1
  go_wp2_with (go_at_call 21; fail)
  refine (VolumeB 9 (by decide) H2.out).mono ?_
  rintro e w3 ⟨rfl, h⟩
  have H3 : Hid (Vb w b { Vo.new with c := 4, v := 9 } w3) := h
  clear h H2
  go_wp2_with (go_at_call 25; fail)
  refine (TickB H3.out).mono ?_
  rintro e w4 ⟨rfl, h⟩
  have H4 : Hid (Vb w b ({ Vo.new with c := 4, v := 9 } : Vo).tick w4) := h
  clear h H3
  go_wp2_with (go_at_call 16; fail)
  refine (LevelB 9 (by decide) H4.out).mono ?_
  rintro e w5 ⟨rfl, rfl⟩
  go_wp2_with (go_at_call 25; fail)
  refine (TickB H4.out).mono ?_
  rintro e w6 ⟨rfl, h⟩
  have H6 : Hid (Vb w b ({ Vo.new with c := 4, v := 9 } : Vo).tick.tick w6) := h
  clear h H4
  go_wp2_with (go_at_call 16; fail)
  refine (LevelB 0 (by decide) H6.out).mono ?_
  rintro e w7 ⟨rfl, rfl⟩
  go_wp2
  go_returns
  exact ⟨rfl, H6.out.old⟩

end Go.Proofs.Ytdnfclhljahghaa.To
