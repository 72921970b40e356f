/- PC and some flags stay: plain mathematics. -/
import Derived.Test.YtenaegclnomklaaExO
namespace Go.Proofs.Ytenaegclnomklaa.Ex
open Go.RowKit Alu
set_option linter.unusedVariables false

theorem W60 : ∀ p : Nat, p < 256 → ∀ b : Bool, W p 1 b &&& 60 = p &&& 60 ∧ W p 2 b &&& 60 = p &&& 60 ∧ W p 64 b &&& 60 = p &&& 60 ∧ W p 128 b &&& 60 = p &&& 60 := by decide +kernel
theorem W48 : ∀ p : Nat, p < 256 → ∀ b : Bool, W p 1 b &&& 48 = p &&& 48 ∧ W p 2 b &&& 48 = p &&& 48 ∧ W p 64 b &&& 48 = p &&& 48 ∧ W p 128 b &&& 48 = p &&& 48 ∧ W p 4 b &&& 48 = p &&& 48 ∧ W p 8 b &&& 48 = p &&& 48 := by decide +kernel

/-- q is flags, as p is, where k marks. -/
def K (k p q : Nat) : Prop := q < 256 ∧ q &&& k = p &&& k
theorem K.refl {k p : Nat} (h : p < 256) : K k p p := ⟨h, rfl⟩
theorem K.w1 {p q : Nat} (h : K 60 p q) (b : Bool) : K 60 p (W q 1 b) := ⟨W_lt _ _ _ h.1 (by decide), (W60 q h.1 b).1.trans h.2⟩
theorem K.w2 {p q : Nat} (h : K 60 p q) (b : Bool) : K 60 p (W q 2 b) := ⟨W_lt _ _ _ h.1 (by decide), (W60 q h.1 b).2.1.trans h.2⟩
theorem K.w64 {p q : Nat} (h : K 60 p q) (b : Bool) : K 60 p (W q 64 b) := ⟨W_lt _ _ _ h.1 (by decide), (W60 q h.1 b).2.2.1.trans h.2⟩
theorem K.w128 {p q : Nat} (h : K 60 p q) (b : Bool) : K 60 p (W q 128 b) := ⟨W_lt _ _ _ h.1 (by decide), (W60 q h.1 b).2.2.2.trans h.2⟩
theorem K.mk {p q : Nat} (h : K 60 p q) (v : Int) : K 60 p (Alu.mk q v) := (h.w2 _).w128 _
theorem K.v1 {p q : Nat} (h : K 48 p q) (b : Bool) : K 48 p (W q 1 b) := ⟨W_lt _ _ _ h.1 (by decide), (W48 q h.1 b).1.trans h.2⟩
theorem K.v2 {p q : Nat} (h : K 48 p q) (b : Bool) : K 48 p (W q 2 b) := ⟨W_lt _ _ _ h.1 (by decide), (W48 q h.1 b).2.1.trans h.2⟩
theorem K.v64 {p q : Nat} (h : K 48 p q) (b : Bool) : K 48 p (W q 64 b) := ⟨W_lt _ _ _ h.1 (by decide), (W48 q h.1 b).2.2.1.trans h.2⟩
theorem K.v128 {p q : Nat} (h : K 48 p q) (b : Bool) : K 48 p (W q 128 b) := ⟨W_lt _ _ _ h.1 (by decide), (W48 q h.1 b).2.2.2.1.trans h.2⟩
theorem K.v4 {p q : Nat} (h : K 48 p q) (b : Bool) : K 48 p (W q 4 b) := ⟨W_lt _ _ _ h.1 (by decide), (W48 q h.1 b).2.2.2.2.1.trans h.2⟩
theorem K.v8 {p q : Nat} (h : K 48 p q) (b : Bool) : K 48 p (W q 8 b) := ⟨W_lt _ _ _ h.1 (by decide), (W48 q h.1 b).2.2.2.2.2.trans h.2⟩
theorem K.vmk {p q : Nat} (h : K 48 p q) (v : Int) : K 48 p (Alu.mk q v) := (h.v2 _).v128 _
theorem K.bin {p q : Nat} (h : K 60 p q) (a m : Int) : K 60 p (binQ q a m) := ((h.mk _).w1 _).w64 _
theorem K.add {p q : Nat} (h : K 60 p q) (a m : Int) : K 60 p (addQ a m q) := by
  unfold addQ
  split
  · exact (((h.w2 _).w128 _).w64 _).w1 _
  · exact h.bin a m
theorem K.odd {p q : Nat} (h : K 60 p q) (a m : Nat) : K 60 p (oddQ a m q) := by
  unfold oddQ
  split
  · exact (((h.w2 _).w128 _).w64 _).w1 _
  · exact ((h.mk _).w1 _).w64 _
theorem K.left {p q : Nat} (h : K 60 p q) (m : Int) (b : Bool) : K 60 p (leftQ m q b) := (h.mk _).w1 _
theorem K.right {p q : Nat} (h : K 60 p q) (m : Int) (b : Bool) : K 60 p (rightQ m q b) := (h.mk _).w1 _
theorem K.cmp {p q : Nat} (h : K 60 p q) (a m : Int) : K 60 p (cmpQ a m q) := (h.mk _).w1 _
theorem K.bit {p q : Nat} (h : K 60 p q) (a m : Nat) : K 60 p (bitN a m q) := ((h.w2 _).w128 _).w64 _

/-- PC stays, and of the flags those that k marks. -/
def St (k : Nat) (r q : Rg) : Prop := q.pc = r.pc ∧ K k r.p q.p
theorem ite_St {c : Prop} [Decidable c] {k : Nat} {r x y : Rg} (hx : St k r x) (hy : St k r y) : St k r (if c then x else y) := by
  by_cases h : c
  · rw [if_pos h]; exact hx
  · rw [if_neg h]; exact hy
set_option maxHeartbeats 1000000 in
theorem rd_st (n : List UInt8) (r q : Rg) (m : Nat) (h : St 60 r q) : St 60 r (rd n q m) := by
  obtain ⟨h1, h2⟩ := h
  unfold rd
  repeat' (with_reducible apply ite_St)
  all_goals
    refine ⟨h1, ?_⟩
    try dsimp only
    first
      | with_reducible exact h2.mk _
      | with_reducible exact h2.add _ _
      | with_reducible exact h2.bin _ _
      | with_reducible exact h2.cmp _ _
      | with_reducible exact h2.bit _ _
      | with_reducible exact (h2.mk _).w1 _
      | with_reducible exact h2.right _ _
      | with_reducible exact h2.odd _ _
      | with_reducible exact h2
set_option maxHeartbeats 1000000 in
theorem tb_st (n : List UInt8) (r : Rg) (m : Nat) (hp : r.p < 256) : St 60 r (tbR n r m) := by
  unfold tbR
  repeat' (with_reducible apply ite_St)
  all_goals
    refine ⟨rfl, ?_⟩
    try dsimp only
    first
      | with_reducible exact (K.refl hp).left _ _
      | with_reducible exact (K.refl hp).right _ _
      | with_reducible exact (K.refl hp).mk _
      | with_reducible exact K.refl hp
theorem tu_st (n : List UInt8) (r : Rg) (m : Nat) (hp : r.p < 256) : St 60 r (tuR n r m) := by
  unfold tuR
  repeat' (with_reducible apply ite_St)
  all_goals first
    | with_reducible exact rd_st _ _ _ _ (tb_st _ _ _ hp)
    | with_reducible exact tb_st _ _ _ hp
theorem sf_st (n : List UInt8) (r : Rg) (hp : r.p < 256) : St 48 r (sf n r) := by
  unfold sf
  repeat' (with_reducible apply ite_St)
  all_goals
    refine ⟨rfl, ?_⟩
    try dsimp only
    first
      | with_reducible exact (K.refl hp).vmk _
      | with_reducible exact (K.refl hp).v1 _
      | with_reducible exact (K.refl hp).v4 _
      | with_reducible exact (K.refl hp).v8 _
      | with_reducible exact (K.refl hp).v64 _
      | with_reducible exact K.refl hp
theorem stR_pc (n : List UInt8) (r : Rg) : (stR n r).pc = r.pc := by unfold stR; by_cases h : n = [84, 65, 83]; (rw [if_pos h]); (rw [if_neg h])
theorem stR_p (n : List UInt8) (r : Rg) : (stR n r).p = r.p := by unfold stR; by_cases h : n = [84, 65, 83]; (rw [if_pos h]); (rw [if_neg h])

/-- What differs is nothing of k. -/
def Z (k : Nat) (x : Int) : Prop := ∃ n : Nat, x = (n : Int) ∧ n < 256 ∧ n &&& k = 0
theorem K.z {k p q : Nat} (h : K k p q) (hp : p < 256) : Z k (bits .xor .u8 (q : Int) (p : Int)) :=
  ⟨q ^^^ p, u8_xor_nat _ _ h.1 hp, Nat.xor_lt_two_pow (n := 8) h.1 hp, by rw [Nat.and_xor_distrib_right, h.2, Nat.xor_self]⟩
theorem Z.or {k : Nat} {x y : Int} (h : Z k x) (g : Z k y) : Z k (bits .or .u8 x y) := by
  obtain ⟨n, rfl, hn, hn0⟩ := h
  obtain ⟨m, rfl, hm, hm0⟩ := g
  exact ⟨n ||| m, u8_or_nat _ _ hn hm, Nat.or_lt_two_pow (n := 8) hn hm, by rw [Nat.and_or_distrib_right, hn0, hm0]; rfl⟩
theorem Z.none {k : Nat} {x : Int} (h : Z k x) (hk : k < 256) (j : Int) (hj : j = (k : Int)) : bits .and .u8 x j = 0 := by
  subst hj
  obtain ⟨n, rfl, hn, hn0⟩ := h
  rw [u8_and_nat _ _ hn hk, hn0]; rfl

end Go.Proofs.Ytenaegclnomklaa.Ex
