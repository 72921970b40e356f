/- AluStill, walked: whatever comes in, true comes out. -/
import Derived.Test.YtcbfhjgdnffjlaaAlu4
namespace Go.Proofs.Ytcbfhjgdnffjlaa.aluStill
open Go.RowKit Alu

theorem W60 : ∀ p : Nat, p < 256 → ∀ b : Bool, W p 1 b &&& 60 = p &&& 60 ∧ W p 2 b &&& 60 = p &&& 60 ∧ W p 64 b &&& 60 = p &&& 60 ∧ W p 128 b &&& 60 = p &&& 60 := by decide +kernel
theorem W64 : ∀ p : Nat, p < 256 → ∀ b : Bool, W p 1 b &&& 64 = p &&& 64 ∧ W p 2 b &&& 64 = p &&& 64 ∧ W p 128 b &&& 64 = p &&& 64 := by decide +kernel

/-- q is flags, as p is, where k marks. -/
def K (k p q : Nat) : Prop := q < 256 ∧ q &&& k = p &&& k
theorem K.refl {k p : Nat} (h : p < 256) : K k p p := ⟨h, rfl⟩
theorem K.w1 {p q : Nat} (h : K 60 p q) (b : Bool) : K 60 p (W q 1 b) := ⟨W_lt _ _ _ h.1 (by decide), (W60 q h.1 b).1.trans h.2⟩
theorem K.w2 {p q : Nat} (h : K 60 p q) (b : Bool) : K 60 p (W q 2 b) := ⟨W_lt _ _ _ h.1 (by decide), (W60 q h.1 b).2.1.trans h.2⟩
theorem K.w64 {p q : Nat} (h : K 60 p q) (b : Bool) : K 60 p (W q 64 b) := ⟨W_lt _ _ _ h.1 (by decide), (W60 q h.1 b).2.2.1.trans h.2⟩
theorem K.w128 {p q : Nat} (h : K 60 p q) (b : Bool) : K 60 p (W q 128 b) := ⟨W_lt _ _ _ h.1 (by decide), (W60 q h.1 b).2.2.2.trans h.2⟩
theorem K.v1 {p q : Nat} (h : K 64 p q) (b : Bool) : K 64 p (W q 1 b) := ⟨W_lt _ _ _ h.1 (by decide), (W64 q h.1 b).1.trans h.2⟩
theorem K.v2 {p q : Nat} (h : K 64 p q) (b : Bool) : K 64 p (W q 2 b) := ⟨W_lt _ _ _ h.1 (by decide), (W64 q h.1 b).2.1.trans h.2⟩
theorem K.v128 {p q : Nat} (h : K 64 p q) (b : Bool) : K 64 p (W q 128 b) := ⟨W_lt _ _ _ h.1 (by decide), (W64 q h.1 b).2.2.trans h.2⟩
theorem K.mk {p q : Nat} (h : K 60 p q) (v : Int) : K 60 p (Alu.mk q v) := (h.w2 _).w128 _
theorem K.mk' {p q : Nat} (h : K 64 p q) (v : Int) : K 64 p (Alu.mk q v) := (h.v2 _).v128 _

/-- What differs is nothing of k. -/
def Z (k : Nat) (x : Int) : Prop := ∃ n : Nat, x = (n : Int) ∧ n < 256 ∧ n &&& k = 0
theorem K.z {k p q : Nat} (h : K k p q) (hp : p < 256) : Z k (bits .xor .u8 (q : Int) (p : Int)) :=
  ⟨q ^^^ p, u8_xor_nat _ _ h.1 hp, Nat.xor_lt_two_pow (n := 8) h.1 hp, by rw [Nat.and_xor_distrib_right, h.2, Nat.xor_self]⟩
theorem Z.or {k : Nat} {x y : Int} (h : Z k x) (g : Z k y) : Z k (bits .or .u8 x y) := by
  obtain ⟨n, rfl, hn, hn0⟩ := h
  obtain ⟨m, rfl, hm, hm0⟩ := g
  exact ⟨n ||| m, u8_or_nat _ _ hn hm, Nat.or_lt_two_pow (n := 8) hn hm, by rw [Nat.and_or_distrib_right, hn0, hm0]; rfl⟩
theorem Z.none {k : Nat} {x : Int} (h : Z k x) (hk : k < 256) (j : Int) (hj : j = (k : Int)) : bits .and .u8 x j = 0 := by
  subst hj
  obtain ⟨n, rfl, hn, hn0⟩ := h
  rw [u8_and_nat _ _ hn hk, hn0]; rfl

theorem k_bin (p : Nat) (a m : Int) (hp : p < 256) : K 60 p (binQ p a m) := (((K.refl hp).mk _).w1 _).w64 _
theorem k_add (p : Nat) (a m : Int) (hp : p < 256) : K 60 p (addQ a m p) := by
  unfold addQ
  split
  · exact ((((K.refl hp).w2 _).w128 _).w64 _).w1 _
  · exact k_bin p a m hp
theorem k_odd (p a m : Nat) (hp : p < 256) : K 60 p (oddQ a m p) := by
  unfold oddQ
  split
  · exact ((((K.refl hp).w2 _).w128 _).w64 _).w1 _
  · exact (((K.refl hp).mk _).w1 _).w64 _
theorem k_left (p : Nat) (m : Int) (b : Bool) (hp : p < 256) : K 60 p (leftQ m p b) := ((K.refl hp).mk _).w1 _
theorem k_right (p : Nat) (m : Int) (b : Bool) (hp : p < 256) : K 60 p (rightQ m p b) := ((K.refl hp).mk _).w1 _
theorem k_cmp (p : Nat) (a m : Int) (hp : p < 256) : K 60 p (cmpQ a m p) := ((K.refl hp).mk _).w1 _
theorem v_left (p : Nat) (m : Int) (b : Bool) (hp : p < 256) : K 64 p (leftQ m p b) := ((K.refl hp).mk' _).v1 _
theorem v_right (p : Nat) (m : Int) (b : Bool) (hp : p < 256) : K 64 p (rightQ m p b) := ((K.refl hp).mk' _).v1 _
theorem v_cmp (p : Nat) (a m : Int) (hp : p < 256) : K 64 p (cmpQ a m p) := ((K.refl hp).mk' _).v1 _

/-- The flags of a test. -/
def bitQ (a m p : Nat) : Nat := W (W (W p 2 (((a &&& m : Nat) : Int) == 0)) 128 (H7 m)) 64 (H6 m)
theorem k_bit (p a m : Nat) (hp : p < 256) : K 60 p (bitQ a m p) := (((K.refl hp).w2 _).w128 _).w64 _

set_option maxRecDepth 100000 in
set_option maxHeartbeats 1000000 in
theorem walk (a0 : Int) (w0 : (Lit.int .u8 a0).wf = true) (a1 : Int) (w1 : (Lit.int .u8 a1).wf = true) (a2 : Int) (w2 : (Lit.int .u8 a2).wf = true) (W : World) :
    Calls Try.prog 9 #[.int .u8 a0, .int .u8 a1, .int .u8 a2] W fun e w' => e = .returned (.bool true) ∧ Below W.heap.size W w' := by
  obtain ⟨x0, x1⟩ := bounds_u8 w0
  obtain ⟨y0, y1⟩ := bounds_u8 w1
  obtain ⟨z0, z1⟩ := bounds_u8 w2
  obtain ⟨a, rfl⟩ := Int.eq_ofNat_of_zero_le x0
  obtain ⟨m, rfl⟩ := Int.eq_ofNat_of_zero_le y0
  obtain ⟨p, rfl⟩ := Int.eq_ofNat_of_zero_le z0
  clear w0 w1 w2
  have ha : a < 256 := by omega
  have hm : m < 256 := by omega
  have hp : p < 256 := by omega
  have n1 := ((((((((k_add p a m hp).z hp).or ((k_bin p a (255 - m) hp).z hp)).or ((k_left p m true hp).z hp)).or ((k_right p m true hp).z hp)).or ((k_odd p a m hp).z hp)).or ((k_cmp p a m hp).z hp)).or ((k_bit p a m hp).z hp)).or (((K.refl hp).mk m).z hp) |>.none (by decide) 60 rfl
  have n2 := (((v_left p m true hp).z hp).or ((v_right p m true hp).z hp)).or ((v_cmp p a m hp).z hp) |>.or (((K.refl hp).mk' m).z hp) |>.none (by decide) 64 rfl
  have HB : Hid (∀ w : World, Calls Try.prog 22 #[.int .u8 (a : Int), .int .u8 (m : Int), .int .u8 (p : Int)] w fun e w' => e = .returned (.int .u8 ((bitQ a m p : Nat) : Int)) ∧ w' = w) := fun w => Bit a m p w ha hm hp
  go_enter Try.func9, Try.ntmps9
  go_wp2_with (first
    | (go_at_call 10; refine (Add _ _ _ _ x0 x1 y0 y1 hp).mono ?_; rintro e w1 ⟨rfl, hB1⟩)
    | (go_at_call 14; refine (Sub _ _ _ _ x0 x1 y0 y1 hp).mono ?_; rintro e w2 ⟨rfl, hB2⟩)
    | (go_at_call 18; refine (Alu.Left _ _ _ _ y0 y1 hp).mono ?_; rintro e w' ⟨rfl, rfl⟩)
    | (go_at_call 20; refine (Alu.Right _ _ _ _ y0 y1 hp).mono ?_; rintro e w' ⟨rfl, rfl⟩)
    | (go_at_call 26; refine (Odd _ _ _ _ ha hm hp).mono ?_; rintro e w4 ⟨rfl, hB4⟩)
    | (go_at_call 16; refine (Compare _ _ _ _ hp).mono ?_; rintro e w' ⟨rfl, rfl⟩)
    | (go_at_call 22; refine (HB.out _).mono ?_; rintro e w' ⟨rfl, rfl⟩)
    | (go_at_call 24; refine (Alu.Mark _ _ _ hp y0 y1).mono ?_; rintro e w' ⟨rfl, rfl⟩)
    | (go_at_call 13; refine (awake9 _).mono ?_; rintro e w3 ⟨rfl, hB3⟩))
  go_ret
  have s1 := hB1.size
  have s2 := hB2.size
  have s4 := hB4.size
  exact ⟨rfl, hB1.trans ((hB2.mono s1).trans ((hB4.mono (by omega)).trans (hB3.mono (by omega))))⟩

end Go.Proofs.Ytcbfhjgdnffjlaa.aluStill
