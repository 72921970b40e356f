/- AluBack, walked: whatever comes in, true comes out. -/
import Derived.Test.YtcbfhjgdnffjlaaAlu4
namespace Go.Proofs.Ytcbfhjgdnffjlaa.aluBack
open Go.RowKit Alu

theorem noD : ∀ p : Nat, p < 256 → bits .andNot .u8 (p : Int) 8 = ((p &&& 247 : Nat) : Int) := by decide +kernel
theorem orC : ∀ p : Nat, p < 256 → bits .or .u8 ((p &&& 247 : Nat) : Int) 1 = (((p &&& 247) ||| 1 : Nat) : Int) := by decide +kernel
theorem noC : ∀ p : Nat, p < 256 → bits .andNot .u8 (p : Int) 1 = ((p &&& 254 : Nat) : Int) := by decide +kernel
theorem fact1 : ∀ p : Nat, p < 256 → D ((p &&& 247) ||| 1) = false ∧ (((p &&& 247) ||| 1 : Nat) : Int) % 2 = 1 ∧ ((p &&& 247) ||| 1) < 256 ∧ p &&& 247 < 256 := by decide +kernel
theorem D_W : ∀ p : Nat, p < 256 → D p = false → ∀ b : Bool, D (W p 2 b) = false ∧ D (W p 128 b) = false ∧ D (W p 1 b) = false ∧ D (W p 64 b) = false := by decide +kernel
theorem D_binQ (p : Nat) (a m : Int) (hp : p < 256) (h : D p = false) : D (binQ p a m) = false := by
  unfold binQ mk
  have h1 := (D_W p hp h ((a + m + (p : Int) % 2) % 256 == 0)).1
  have l1 := W_lt p 2 ((a + m + (p : Int) % 2) % 256 == 0) hp (by decide)
  have h2 := (D_W _ l1 h1 (decide (128 ≤ (a + m + (p : Int) % 2) % 256))).2.1
  have l2 := W_lt _ 128 (decide (128 ≤ (a + m + (p : Int) % 2) % 256)) l1 (by decide)
  have h3 := (D_W _ l2 h2 (decide (255 < a + m + (p : Int) % 2))).2.2.1
  have l3 := W_lt _ 1 (decide (255 < a + m + (p : Int) % 2)) l2 (by decide)
  exact (D_W _ l3 h3 _).2.2.2
theorem D_noC : ∀ q : Nat, q < 256 → D q = false → D (q &&& 254) = false ∧ ((q &&& 254 : Nat) : Int) % 2 = 0 ∧ q &&& 254 < 256 := by decide +kernel

/-- A sum less what was added. -/
theorem back (a m : Int) (p : Nat) (a0 : 0 ≤ a) (a1 : a ≤ 255) (hp : p < 256) :
    subV (addV a m ((p &&& 247) ||| 1)) m ((addQ a m ((p &&& 247) ||| 1)) &&& 254) = a := by
  obtain ⟨h1, h2, h3, _⟩ := fact1 p hp
  have hq : addQ a m ((p &&& 247) ||| 1) = binQ ((p &&& 247) ||| 1) a m := by unfold addQ; rw [h1]; rfl
  have hD := D_binQ _ a m h3 h1
  obtain ⟨h4, h5, _⟩ := D_noC _ (binQ_lt _ a m h3) hD
  unfold subV addV
  rw [hq, h4, h1, h2, h5]
  simp
  omega

/-- A byte that is shifted up and turned down again. -/
theorem shift (a : Int) (p : Nat) (a0 : 0 ≤ a) (a1 : a ≤ 255) (hp : p < 256) : rightV (leftV a p false) (leftQ a p false) true = a := by
  unfold rightV leftQ leftV
  have hl := mk_lt p (a * 2 % 256 + if (false : Bool) = true then (p : Int) % 2 else 0) hp
  generalize mk p (a * 2 % 256 + if (false : Bool) = true then (p : Int) % 2 else 0) = q at hl
  have h : ∀ q : Nat, q < 256 → ((W q 1 true : Nat) : Int) % 2 = 1 ∧ ((W q 1 false : Nat) : Int) % 2 = 0 := by decide +kernel
  by_cases h1 : 128 ≤ a
  · rw [decide_eq_true h1, if_pos rfl, (h q hl).1]; simp; omega
  · rw [decide_eq_false h1, if_pos rfl, (h q hl).2]; simp; omega

set_option maxRecDepth 100000 in
set_option maxHeartbeats 1000000 in
theorem walk (a0 : Int) (w0 : (Lit.int .u8 a0).wf = true) (a1 : Int) (w1 : (Lit.int .u8 a1).wf = true) (a2 : Int) (w2 : (Lit.int .u8 a2).wf = true) (W : World) :
    Calls Try.prog 8 #[.int .u8 a0, .int .u8 a1, .int .u8 a2] W fun e w' => e = .returned (.bool true) ∧ Below W.heap.size W w' := by
  obtain ⟨x0, x1⟩ := bounds_u8 w0
  obtain ⟨y0, y1⟩ := bounds_u8 w1
  obtain ⟨z0, z1⟩ := bounds_u8 w2
  obtain ⟨p, rfl⟩ := Int.eq_ofNat_of_zero_le z0
  clear w0 w1 w2
  have hp : p < 256 := by omega
  have f1 := noD p hp
  have f2 := orC p hp
  obtain ⟨_, _, h3, h4⟩ := fact1 p hp
  have hq := addQ_lt a0 a1 _ h3
  have f3 := noC _ hq
  have h5 : addQ a0 a1 (p &&& 247 ||| 1) &&& 254 < 256 := Nat.and_lt_two_pow (n := 8) _ (by decide)
  have e1 : Hid (subV (addV a0 a1 ((p &&& 247) ||| 1)) a1 ((addQ a0 a1 ((p &&& 247) ||| 1)) &&& 254) = a0) := back a0 a1 p x0 x1 hp
  have e2 : Hid (rightV (leftV a0 (p &&& 247) false) (leftQ a0 (p &&& 247) false) true = a0) := shift a0 _ x0 x1 h4
  have v0 : 0 ≤ addV a0 a1 (p &&& 247 ||| 1) ∧ addV a0 a1 (p &&& 247 ||| 1) ≤ 255 := by unfold addV; split <;> omega
  obtain ⟨l0, l1⟩ := leftV_le a0 (p &&& 247) false
  have lq : leftQ a0 (p &&& 247) false < 256 := W_lt _ _ _ (mk_lt _ _ h4) (by decide)
  go_enter Try.func8, Try.ntmps8
  go_wp2_with (first
    | (go_at_call 10; refine (Add _ _ _ _ x0 x1 y0 y1 h3).mono ?_; rintro e w1 ⟨rfl, hB1⟩)
    | (go_at_call 14; refine (Sub _ _ _ _ v0.1 v0.2 y0 y1 h5).mono ?_; rw [e1.out]; rintro e w2 ⟨rfl, hB2⟩)
    | (go_at_call 18; refine (Alu.Left _ _ _ _ x0 x1 h4).mono ?_; rintro e w4 ⟨rfl, rfl⟩)
    | (go_at_call 20; refine (Alu.Right _ _ _ _ l0 l1 lq).mono ?_; rw [e2.out]; rintro e w5 ⟨rfl, rfl⟩)
    | (go_at_call 13; refine (awake9 _).mono ?_; rintro e w3 ⟨rfl, hB3⟩))
  go_ret
  exact ⟨rfl, hB1.trans ((hB2.mono hB1.size).trans (hB3.mono (Nat.le_trans hB1.size hB2.size)))⟩

end Go.Proofs.Ytcbfhjgdnffjlaa.aluBack
